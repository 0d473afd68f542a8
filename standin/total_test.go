package standin

import "testing"

type small uint8

// TestTotal: any kind of numbers is added up, each as its kind adds.
func TestTotal(t *testing.T) {
	length := func(s string) int { return len(s) }
	if n := total([]string{"a", "", "bcd"}, length); n != 4 {
		t.Errorf("21: the total of 1, 0 and 3 is %d", n)
	}
	if n := total(nil, length); n != 0 {
		t.Errorf("21: the total of nothing is %d", n)
	}
	if n := total([]small{200, 100}, func(n small) small { return n }); n != 44 {
		t.Errorf("21: the total of the bytes 200 and 100 is %d", n)
	}
	if x := total([]float64{0.5, -2, 0.25}, func(x float64) float64 { return x }); x != -1.25 {
		t.Errorf("21: the total of 0.5, -2 and 0.25 is %v", x)
	}
	if z := total([]complex128{1i, 2, 3 - 2i}, func(z complex128) complex128 { return z }); z != 5-1i {
		t.Errorf("21: the total of i, 2 and 3-2i is %v", z)
	}
}
