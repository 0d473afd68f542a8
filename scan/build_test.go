package scan_test

import (
	"math/rand"
	"strings"
	"testing"

	"turnstile/api"
	"turnstile/grammar"
	"turnstile/tree"
)

// writes holds Build against what must be written.
func writes(t *testing.T, x made, m api.Message, want string, e api.Errno, n int) {
	t.Helper()
	if b, f, at := x.table.Build(m); b != want || f != e || at != n {
		t.Errorf("13.2: Build(%.300v) by %.300v = %.200x, %d, %d; must be %.200x, %d, %d", m, x.d, b, f, at, want, e, n)
	}
}

// written holds it against layer 12, and is the error.
func written(t *testing.T, x made, m api.Message) api.Errno {
	t.Helper()
	b, e, n := tree.Build(x.d, m)
	writes(t, x, m, b, e, n)
	return e
}

func TestBuildByHand(t *testing.T) {
	three, eleven := field(3, "000000"), field(11, "000042")
	x, y := compiled(t, example()), compiled(t, rich())
	writes(t, x, of("0200", three, eleven), short, api.OK, 0)
	writes(t, x, of("0200", three, eleven, field(35, "4111=30")), track, api.OK, 0)
	m, parts := full()
	writes(t, y, m, strings.Join(parts, ""), api.OK, 0)
	writes(t, y, of("1800"), "\x18\x00\x00\x00\x00\x00\x00\x00\x00\x00", api.OK, 0)
	for _, c := range []struct {
		x made
		m api.Message
		e api.Errno
		n int
	}{
		{x, of("0210", three, eleven), api.ErrMTI, 0},
		{x, of(""), api.ErrMTI, 0},
		{x, of("0200", eleven, three), api.ErrField, 3},
		{x, of("0200", three, three, eleven), api.ErrField, 3},
		{x, of("0200", field(2, "1"), three, eleven), api.ErrField, 2},
		{x, of("0200", field(-1, "1"), three, eleven), api.ErrField, -1},
		{x, of("0200", three, eleven, field(129, "1")), api.ErrField, 129},
		{x, of("0200", three), api.ErrMust, 11},
		{x, of("0200"), api.ErrMust, 3},
		{x, of("0200", field(3, "00000"), eleven), api.ErrValue, 3},
		{x, of("0200", three, field(11, "00004=")), api.ErrValue, 11},
		{x, of("0200", three, eleven, field(35, "")), api.ErrValue, 35},
		{x, of("0200", three, eleven, field(35, strings.Repeat("1", 38))), api.ErrValue, 35},
		{x, of("0200", three, kids(11, leaf(1, "x"))), api.ErrValue, 11},
		{y, of("1800", field(3, "12345")), api.ErrMay, 3},
		{y, of("1100", field(3, "12345"), field(28, "C"), field(128, "12345678")), api.ErrValue, 28},
		{y, of("1100", field(3, "12345"), kids(48), field(128, "12345678")), api.ErrValue, 48},
		{y, of("1100", field(3, "12345"), kids(55, leaf(31, "")), field(128, "12345678")), api.ErrValue, 55},
	} {
		writes(t, c.x, c.m, "", c.e, c.n)
	}
}

// TestTheGreatestBytes: 9999 may be, one more may not, whichever field has it.
func TestTheGreatestBytes(t *testing.T) {
	d := example()
	d.Fields = []api.FieldSpec{{Number: 2, Class: api.ClassB, Enc: api.BINARY, Digits: 4, LenEnc: api.ASCII, Size: 9999}, {Number: 3, Class: api.ClassN, Enc: api.BCD, Digits: 4, LenEnc: api.BINARY, Size: 9999}}
	d.Rules = []api.Rule{{MTI: "0200", May: []int{2, 3}}}
	x := compiled(t, d)
	for n, e := range map[int]api.Errno{1: api.OK, 9974: api.OK, 9975: api.OK, 9976: api.ErrLength, 9977: api.ErrLength, 9999: api.ErrLength} {
		if f := written(t, x, of("0200", field(2, strings.Repeat("v", n)))); f != e {
			t.Errorf("13.2: of %d bytes: %d", n, f)
		}
	}
	most := field(3, strings.Repeat("7", 9999)) // 5002 bytes, with its length
	for n, e := range map[int]api.Errno{4972: api.OK, 4973: api.OK, 4974: api.ErrLength} {
		if f := written(t, x, of("0200", field(2, strings.Repeat("v", n)), most)); f != e {
			t.Errorf("13.2: of %d bytes behind %d: %d", 5002, n, f)
		}
	}
	all := ofAllFields(api.BINARY)
	m := of("0200")
	for i := range all.Fields {
		all.Fields[i].Size = 9999
		m.Fields = append(m.Fields, field(all.Fields[i].Number, strings.Repeat("v", 9999)))
	}
	writes(t, compiled(t, all), m, "", api.ErrLength, 0)
	m.Fields[70].Value = "v"
	writes(t, compiled(t, all), m, "", api.ErrValue, m.Fields[70].Number)
}

// TestEveryLengthWritten: of each kind of length and each class, fields of one character up to the Size.
func TestEveryLengthWritten(t *testing.T) {
	r := rand.New(rand.NewSource(1306))
	seen := codes{}
	for _, size := range []int{2, 9, 13, 130} {
		for _, s := range allSpecs(70, size) {
			x := compiled(t, one(s))
			for n := range size + 2 {
				f := field(70, textOf(r, min(s.Class, api.ClassX), n))
				switch {
				case s.Class == api.ClassT:
					f = kids(70, leaf(90, f.Value))
				case s.Class == api.ClassS:
					f = kids(70, leaf(7, textOf(r, api.ClassANS, n)))
				case size > 50 && n > 11 && n < 98:
					continue
				}
				seen[written(t, x, of("0200", f))]++
			}
		}
	}
	seen.enough(t, 500, api.OK, api.ErrValue)
}

func TestManyMessagesWritten(t *testing.T) {
	seen := codes{}
	r := rand.New(rand.NewSource(1307))
	for range 2500 {
		d := rightDialect(r)
		x := compiled(t, d)
		for _, rule := range d.Rules {
			m := rightMessage(r, d, rule)
			if e := written(t, x, m); e != api.OK {
				t.Errorf("the test made a message that does not fit: %d", e)
			}
			for range 3 {
				seen[written(t, x, bentMessage(r, m))]++
			}
		}
		other := bentDialect(r, d)
		if e, _ := grammar.Right(other); e == api.OK && len(d.Rules) > 0 {
			seen[written(t, compiled(t, other), rightMessage(r, d, d.Rules[0]))]++
		}
	}
	seen.enough(t, 100, api.OK, api.ErrMTI, api.ErrField, api.ErrValue, api.ErrMust)
	seen.enough(t, 20, api.ErrMay)
}
