package tlv_test

import (
	"math/rand"
	"strings"
	"testing"

	"turnstile/api"
	"turnstile/tlv"
)

func checkPrint(t *testing.T, l []api.Node) {
	t.Helper()
	if s, want := tlv.Print(l), wantPrint(l); s != want {
		t.Errorf("9.8: Print(%.200v) = %.200q, must be %.200q", l, s, want)
	}
}

func TestPrintOfSome(t *testing.T) {
	for _, c := range []struct {
		want string
		l    []api.Node
	}{
		{"", nil}, {"", []api.Node{}},
		{"70\n  5A 411111\n", []api.Node{kid(112, leaf(90, "\x41\x11\x11"))}},
		{"9F02 000000001234\n", []api.Node{leaf(40706, "\x00\x00\x00\x00\x12\x34")}},
		{"DF8101 78\n5A\n01\n", []api.Node{leaf(0xDF8101, "x"), leaf(90, ""), leaf(1, "")}},
		{"1F00 0A\n1F8100 A0FF\n", []api.Node{leaf(0x1F00, "\n"), leaf(0x1F8100, "\xA0\xFF")}},
		{"? 61\n  ?\n    ? 00\n  5A\n?\n", []api.Node{{Tag: 31, Value: "a", Kids: []api.Node{{Tag: -1, Kids: []api.Node{leaf(0, "\x00")}}, leaf(90, "")}}, {Tag: 1 << 24}}},
		{"70 78\n  5A\n", []api.Node{{Tag: 112, Value: "x", Kids: []api.Node{leaf(90, "")}}}},
		{"5A 78\n  70\n", []api.Node{{Tag: 90, Value: "x", Kids: []api.Node{kid(112)}}}},
	} {
		if s := tlv.Print(c.l); s != c.want {
			t.Errorf("9.8: Print(%v) = %q, must be %q", c.l, s, c.want)
		}
	}
}

func TestPrintOfEachNumber(t *testing.T) {
	for tag := -300; tag < 1<<17; tag++ {
		checkPrint(t, []api.Node{leaf(tag, "")})
	}
	var l []api.Node
	for tag := range tags().texts {
		l = append(l, leaf(tag, ""))
	}
	checkPrint(t, l)
	l = nil
	for _, tag := range noTags {
		l = append(l, leaf(tag, "x"))
	}
	checkPrint(t, l)
}

func TestPrintOfEachByte(t *testing.T) {
	for c := range 256 {
		one := string([]byte{byte(c)})
		checkPrint(t, []api.Node{leaf(90, one), leaf(0, one+one+"x"), kid(112, leaf(90, "x"+one))})
	}
	checkPrint(t, []api.Node{leaf(90, strings.Repeat("\x01\xFE", 50000))})
}

func TestPrintOfRandomNodes(t *testing.T) {
	r := rand.New(rand.NewSource(906))
	for range 20000 {
		checkPrint(t, anyNodes(r, 1))
		checkPrint(t, rightNodes(r, 1))
	}
}
