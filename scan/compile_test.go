package scan_test

import (
	"math/rand"
	"strings"
	"testing"
	"unsafe"

	"turnstile/api"
	"turnstile/grammar"
	"turnstile/scan"
)

// compiles holds Compile against what must be told of a dialect.
func compiles(t *testing.T, d api.Dialect, e api.Errno, n int) {
	t.Helper()
	x, f, at := scan.Compile(d)
	if f != e || at != n || (x != nil) != (e == api.OK) {
		t.Errorf("13.1: Compile(%.300v) = %t, %d, %d; must be %d, %d", d, x != nil, f, at, e, n)
	}
}

func TestCompileByHand(t *testing.T) {
	compiles(t, example(), api.OK, 0)
	compiles(t, rich(), api.OK, 0)
	compiles(t, ofAllFields(api.EBCDIC), api.OK, 0)
	compiles(t, api.Dialect{Name: "x", MTIEnc: api.ASCII, MapEnc: api.ASCII}, api.OK, 0)
	compiles(t, api.Dialect{}, api.ErrName, 0)
	for _, c := range []struct {
		bend func(d *api.Dialect)
		e    api.Errno
		n    int
	}{
		{func(d *api.Dialect) { d.Name = "D" }, api.ErrName, 0},
		{func(d *api.Dialect) { d.MTIEnc = api.BINARY }, api.ErrVersion, 0},
		{func(d *api.Dialect) { d.MapEnc = api.BCD }, api.ErrVersion, 0},
		{func(d *api.Dialect) { d.Fields = make([]api.FieldSpec, 127) }, api.ErrMany, 0},
		{func(d *api.Dialect) { d.Fields[1].Number = 65 }, api.ErrField, 1},
		{func(d *api.Dialect) { d.Fields[2].Number = 11 }, api.ErrField, 2},
		{func(d *api.Dialect) { d.Fields[2].Enc = api.BCD }, api.ErrClass, 2},
		{func(d *api.Dialect) { d.Fields[1].Size = 0 }, api.ErrSize, 1},
		{func(d *api.Dialect) { d.Fields[2].LenEnc = 0 }, api.ErrSize, 2},
		{func(d *api.Dialect) { d.Rules[0].May = []int{36} }, api.ErrRule, 0},
		{func(d *api.Dialect) { d.Rules = append(d.Rules, d.Rules[0]) }, api.ErrRule, 1},
		{func(d *api.Dialect) { d.MAC = 64 }, api.ErrMAC, 0},
	} {
		d := example()
		c.bend(&d)
		compiles(t, d, c.e, c.n)
	}
}

func TestCompileTellsWhatRightTells(t *testing.T) {
	seen := codes{}
	r := rand.New(rand.NewSource(1301))
	for range 4000 {
		d := bentDialect(r, oneOf(r, example(), rich(), rightDialect(r)))
		e, n := grammar.Right(d)
		compiles(t, d, e, n)
		seen[e]++
	}
	seen.enough(t, 20, api.OK, api.ErrName, api.ErrVersion, api.ErrField, api.ErrClass, api.ErrSize, api.ErrRule, api.ErrMAC)
}

// lent is a dialect whose texts stand in memory that can be written into.
func lent(d api.Dialect) (api.Dialect, func()) {
	var memory [][]byte
	lend := func(s string) string {
		b := []byte(s)
		memory = append(memory, b)
		return unsafe.String(&b[0], len(b))
	}
	d.Name = lend(d.Name)
	for i := range d.Rules {
		d.Rules[i].MTI = lend(d.Rules[i].MTI)
	}
	return d, func() {
		for _, b := range memory {
			copy(b, "9999999999")
		}
	}
}

// TestLaterChangesOfTheDialect: neither of its lists nor of what stands in them.
func TestLaterChangesOfTheDialect(t *testing.T) {
	for _, bend := range []func(d api.Dialect){
		func(d api.Dialect) { clear(d.Fields) },
		func(d api.Dialect) { clear(d.Rules) },
		func(d api.Dialect) { clear(d.Rules[0].Must); clear(d.Rules[0].May) },
		func(d api.Dialect) { d.Rules[0].Must, d.Rules[0].May = d.Rules[0].May, d.Rules[0].Must },
		func(d api.Dialect) { d.Fields[0], d.Fields[1] = d.Fields[1], d.Fields[0] },
		func(d api.Dialect) {
			for i := range d.Fields {
				d.Fields[i] = api.FieldSpec{Number: d.Fields[i].Number, Class: api.ClassB, Enc: api.BINARY, Size: 1}
			}
		},
	} {
		m, parts := full()
		text := strings.Join(parts, "")
		d, spoil := lent(rich())
		x := compiled(t, d)
		scanned := x.table.New()
		scanned.Scan(text)
		bend(d)
		spoil()
		want := wantRead(rich(), text)
		tellsOf(t, x, text, want)
		has(t, scanned, want)
		writes(t, x, m, text, api.OK, 0)
		writes(t, x, of("1100"), "", api.ErrMust, 3)
		writes(t, x, of("1800", field(3, "12345")), "", api.ErrMay, 3)
		tellsOf(t, x, "\x18\x00\x20\x00\x00\x00\x00\x00\x00\x00\x01\x23\x45", wrong(api.DefRule, 3, 10))
	}
}

// TestTablesDoNotHangOnOneAnother: each tells of its own dialect.
func TestTablesDoNotHangOnOneAnother(t *testing.T) {
	r := rand.New(rand.NewSource(1302))
	var all []made
	var texts []string
	for range 60 {
		d := rightDialect(r)
		all = append(all, compiled(t, d))
		for _, rule := range d.Rules {
			b, _, _ := all[len(all)-1].table.Build(rightMessage(r, d, rule))
			texts = append(texts, b)
		}
	}
	for _, b := range texts {
		for _, x := range all {
			agrees(t, x, b)
		}
	}
}
