package stan_test

import (
	"fmt"
	"slices"
	"testing"

	"turnstile/api"
	"turnstile/stan"
)

func TestNewEcho(t *testing.T) {
	refused := [][]int{nil, {}, {11, 11}, {11, 7, 11}, {7, 11, 11}, {128, 2, 128}, {1, 11}, {11, 65}, {11, 129, 7}, {64, 65, 66}, append(fieldNumbers(), 2), append(fieldNumbers(), 128), append(fieldNumbers(), 65), slices.Repeat([]int{11}, 100000)}
	for _, l := range refused {
		holdsRefused(t, l...)
	}
	for n := -300; n < 600; n++ {
		if isField := slices.Contains(fieldNumbers(), n); isField {
			lasts(t, echoOf(t, n), 0)
			holdsRefused(t, n, n)
		} else {
			holdsRefused(t, n)
			holdsRefused(t, 11, n)
			holdsRefused(t, n, 11)
		}
	}
	for _, n := range edges {
		if n < 2 || n == 65 || n > 128 {
			holdsRefused(t, n)
			holdsRefused(t, 2, 7, n, 128)
		}
	}
	all := fieldNumbers()
	lasts(t, echoOf(t, all...), 0)
	slices.Reverse(all)
	lasts(t, echoOf(t, all...), 0)
}

func holdsRefused(t *testing.T, fields ...int) {
	t.Helper()
	if e, code := stan.NewEcho(fields...); e != nil || code != api.ErrArg {
		t.Errorf("18.5: NewEcho(%.200s) is %d, and an echo: %v; must be ErrArg, nil", fmt.Sprint(fields), code, e != nil)
	}
}

// TestNewEchoKeepsNothing: of any number nothing is saved yet.
func TestNewEchoKeepsNothing(t *testing.T) {
	e := echoOf(t, 11, 37)
	m := of("0200", field(11, "1"), field(37, "2"))
	for _, n := range edges {
		restores(t, e, n, m, m, false)
		drops(t, e, n, false)
	}
	lasts(t, e, 0)
}

// TestSaveRefuses: the first cause is told, and nothing has changed.
func TestSaveRefuses(t *testing.T) {
	whole := of("0200", field(11, "1"), field(37, "2"))
	for _, broken := range brokenMessages() {
		e := echoOf(t, 37, 11, 55)
		saves(t, e, 7, of("0200", field(11, "7")), api.OK)
		for _, n := range edges {
			if isNumber(n) {
				saves(t, e, n, broken, api.ErrMessage)
			} else {
				saves(t, e, n, broken, api.ErrArg)
				saves(t, e, n, whole, api.ErrArg)
			}
			restores(t, e, n, whole, whole, false)
			drops(t, e, n, false)
		}
		saves(t, e, 7, broken, api.ErrTwice)
		saves(t, e, 7, whole, api.ErrTwice)
		restores(t, e, 7, whole, of("0200", field(11, "7")), true)
		lasts(t, e, 1)
	}
}

// TestSaveAnyNumber: each number that may be has its own.
func TestSaveAnyNumber(t *testing.T) {
	e := echoOf(t, 11)
	numbers := []int{1, 2, 63, 64, 65, 128, 1000, 65535, 65536, 65537, 999998, 999999}
	for _, n := range numbers {
		saves(t, e, n, of("0200", field(11, fmt.Sprint(n))), api.OK)
	}
	lasts(t, e, len(numbers))
	for i, n := range numbers {
		restores(t, e, n, of("0210"), of("0210", field(11, fmt.Sprint(n))), true)
		restores(t, e, n+1_000_000, of("0210"), of("0210"), false)
		restores(t, e, -n, of("0210"), of("0210"), false)
		drops(t, e, -n, false)
		drops(t, e, n, true)
		lasts(t, e, len(numbers)-i-1)
	}
}

// TestSaveOfNothing: a message without the echo's fields counts as saved, and takes them away.
func TestSaveOfNothing(t *testing.T) {
	for _, m := range []api.Message{of("0800"), of("0800", field(70, "001")), {MTI: "0800", Fields: []api.Field{}}} {
		e := echoOf(t, 11, 37)
		saves(t, e, 5, m, api.OK)
		saves(t, e, 5, m, api.ErrTwice)
		lasts(t, e, 1)
		restores(t, e, 5, of("0210", field(11, "a"), field(37, "b"), field(39, "c")), of("0210", field(39, "c")), true)
		restores(t, e, 5, of("0210", field(11, "a")), of("0210"), true)
		restores(t, e, 5, of("0210"), of("0210"), true)
		drops(t, e, 5, true)
		drops(t, e, 5, false)
		saves(t, e, 5, m, api.OK)
	}
}

// TestSaveAsItIs: values of any bytes, empty ones, and Kids.
func TestSaveAsItIs(t *testing.T) {
	for _, f := range []api.Field{field(55, ""), field(55, "\x00\xFF\n"), field(55, "٣"), kids(55, leaf(0, "")), kids(55, nested(8)...), kids(55, leaves(500)...), kids(55, leaf(1, "a"), inner(112, leaf(90, "b"), inner(3, leaf(4, "\x00"))), leaf(1, "a"))} {
		e := echoOf(t, 55)
		saves(t, e, 9, of("0200", field(3, "x"), f, field(60, "y")), api.OK)
		restores(t, e, 9, of("0210"), of("0210", f), true)
		restores(t, e, 9, of("1430", field(4, "z"), kids(55, leaf(7, "other")), field(61, "w")), of("1430", field(4, "z"), f, field(61, "w")), true)
	}
}

// TestRestoreAtAnyPlace: fields are laid where they belong, ahead of, between and behind the others.
func TestRestoreAtAnyPlace(t *testing.T) {
	for _, n := range fieldNumbers() {
		e := echoOf(t, n)
		saves(t, e, 1, every("0200", "old"), api.OK)
		want := every("0210", "new")
		at := slices.IndexFunc(want.Fields, func(f api.Field) bool { return f.Number == n })
		without := of("0210", slices.Concat(want.Fields[:at], want.Fields[at+1:])...)
		want.Fields[at].Value = "old"
		restores(t, e, 1, every("0210", "new"), want, true)
		restores(t, e, 1, without, want, true)
		restores(t, e, 1, of("0210"), of("0210", field(n, "old")), true)
		saves(t, e, 2, without, api.OK)
		restores(t, e, 2, every("0210", "new"), without, true)
	}
}

// TestRestoreOfAll: an echo of all fields leaves the type alone.
func TestRestoreOfAll(t *testing.T) {
	numbers := fieldNumbers()
	slices.Reverse(numbers)
	e := echoOf(t, numbers...)
	saves(t, e, 1, every("0200", "old"), api.OK)
	saves(t, e, 2, of("0200"), api.OK)
	saves(t, e, 3, of("0200", field(64, "old"), field(66, "old")), api.OK)
	restores(t, e, 1, every("0210", "new"), every("0210", "old"), true)
	restores(t, e, 1, of("0210"), every("0210", "old"), true)
	restores(t, e, 2, every("0210", "new"), of("0210"), true)
	restores(t, e, 3, every("0210", "new"), of("0210", field(64, "old"), field(66, "old")), true)
}

// TestRestoreRefuses: what is not whole comes as it is, whether something is saved or not.
func TestRestoreRefuses(t *testing.T) {
	e := echoOf(t, 11, 37, 55)
	saves(t, e, 5, every("0200", "kept"), api.OK)
	for _, m := range append(brokenMessages(), of("0100", kids(55, nested(1000)...)), of("", every("0100", "x").Fields...)) {
		restores(t, e, 5, m, m, false)
		restores(t, e, 6, m, m, false)
		restores(t, e, 0, m, m, false)
	}
	m := every("0210", "new")
	for _, n := range edges {
		restores(t, e, n, m, m, false)
	}
	lasts(t, e, 1)
}

// TestRestoreKeepsOn: what is kept comes as often as it is asked, till it is dropped.
func TestRestoreKeepsOn(t *testing.T) {
	e := echoOf(t, 7, 11, 32, 37)
	saves(t, e, 5, of("0200", field(4, "a"), field(7, "b"), field(11, "c")), api.OK)
	for i := range 5 {
		m := of("0210", field(11, fmt.Sprint(i)), field(37, "x"), field(39, "00"))
		restores(t, e, 5, m, of("0210", field(7, "b"), field(11, "c"), field(39, "00")), true)
		lasts(t, e, 1)
		saves(t, e, 5, m, api.ErrTwice)
	}
	drops(t, e, 5, true)
	lasts(t, e, 0)
	restores(t, e, 5, of("0210", field(11, "1")), of("0210", field(11, "1")), false)
	drops(t, e, 5, false)
	saves(t, e, 5, of("0200", field(32, "d")), api.OK)
	restores(t, e, 5, of("0210", field(11, "1")), of("0210", field(32, "d")), true)
}
