package tree_test

import (
	"math/rand"
	"strings"
	"testing"

	"turnstile/api"
	"turnstile/tree"
)

// writes holds Build against what must be written.
func writes(t *testing.T, d api.Dialect, m api.Message, want string, e api.Errno, n int) {
	t.Helper()
	if b, f, at := tree.Build(d, m); b != want || f != e || at != n {
		t.Errorf("12.2: Build(%.300v, %.300v) = %.200x, %d, %d; must be %.200x, %d, %d", d, m, b, f, at, want, e, n)
	}
}

// written holds it against the second reading, and is the error.
func written(t *testing.T, d api.Dialect, m api.Message) api.Errno {
	t.Helper()
	b, e, n := wantBuild(d, m)
	writes(t, d, m, b, e, n)
	return e
}

func TestBuildExamples(t *testing.T) {
	three, eleven := field(3, "000000"), field(11, "000042")
	writes(t, example(), of("0200", three, eleven), short, api.OK, 0)
	writes(t, example(), of("0200", three, eleven, field(35, "4111=30")), track, api.OK, 0)
	m, parts := full()
	writes(t, rich(), m, strings.Join(parts, ""), api.OK, 0)
	writes(t, rich(), of("1800"), "\x18\x00\x00\x00\x00\x00\x00\x00\x00\x00", api.OK, 0)
}

// TestBuildRefuses: the dialect's fault counts ahead of the message's, and the first of these.
func TestBuildRefuses(t *testing.T) {
	three, eleven := field(3, "000000"), field(11, "000042")
	wrong := example()
	wrong.Fields[2].Enc = api.BINARY
	for _, c := range []struct {
		d api.Dialect
		m api.Message
		e api.Errno
		n int
	}{
		{wrong, of("0200", three, eleven), api.ErrClass, 2},
		{wrong, of("x"), api.ErrClass, 2},
		{api.Dialect{}, of("0200"), api.ErrName, 0},
		{example(), of("0210", three, eleven), api.ErrMTI, 0},
		{example(), of(""), api.ErrMTI, 0},
		{example(), of("0200", eleven, three), api.ErrField, 3},
		{example(), of("0200", three, three, eleven), api.ErrField, 3},
		{example(), of("0200", field(2, "1"), three, eleven), api.ErrField, 2},
		{example(), of("0200", three), api.ErrMust, 11},
		{example(), of("0200"), api.ErrMust, 3},
		{example(), of("0200", field(3, "00000"), eleven), api.ErrValue, 3},
		{example(), of("0200", three, field(11, "00004=")), api.ErrValue, 11},
		{example(), of("0200", three, eleven, field(35, "")), api.ErrValue, 35},
		{example(), of("0200", three, eleven, field(35, strings.Repeat("1", 38))), api.ErrValue, 35},
		{example(), of("0200", three, kids(11, leaf(1, "x"))), api.ErrValue, 11},
		{rich(), of("1800", field(3, "12345")), api.ErrMay, 3},
		{rich(), of("1100", field(3, "12345"), field(28, "C"), field(128, "12345678")), api.ErrValue, 28},
		{rich(), of("1100", field(3, "12345"), kids(48), field(128, "12345678")), api.ErrValue, 48},
		{rich(), of("1100", field(3, "12345"), kids(55, leaf(31, "")), field(128, "12345678")), api.ErrValue, 55},
	} {
		writes(t, c.d, c.m, "", c.e, c.n)
	}
}

// TestTheGreatestBytes: 9999 may be, one more may not, whichever field has it.
func TestTheGreatestBytes(t *testing.T) {
	d := example()
	d.Fields = []api.FieldSpec{{Number: 2, Class: api.ClassB, Enc: api.BINARY, Digits: 4, LenEnc: api.ASCII, Size: 9999}, {Number: 3, Class: api.ClassN, Enc: api.BCD, Digits: 4, LenEnc: api.BINARY, Size: 9999}}
	d.Rules = []api.Rule{{MTI: "0200", May: []int{2, 3}}}
	for n, e := range map[int]api.Errno{1: api.OK, 9974: api.OK, 9975: api.OK, 9976: api.ErrLength, 9977: api.ErrLength, 9999: api.ErrLength} {
		if f := written(t, d, of("0200", field(2, strings.Repeat("v", n)))); f != e {
			t.Errorf("12.2: of %d bytes: %d", n, f)
		}
	}
	most := field(3, strings.Repeat("7", 9999)) // 5002 bytes, with its length
	for n, e := range map[int]api.Errno{4972: api.OK, 4973: api.OK, 4974: api.ErrLength} {
		if f := written(t, d, of("0200", field(2, strings.Repeat("v", n)), most)); f != e {
			t.Errorf("12.2: of %d bytes behind %d: %d", 5002, n, f)
		}
	}
	written(t, d, of("0200", most))
	all := ofAllFields(api.BINARY)
	m := of("0200")
	for i := range all.Fields {
		all.Fields[i].Size = 9999
		m.Fields = append(m.Fields, field(all.Fields[i].Number, strings.Repeat("v", 9999)))
	}
	writes(t, all, m, "", api.ErrLength, 0)
}

// TestEveryLengthWritten: of each kind of length and each class, fields of one character up to the Size.
func TestEveryLengthWritten(t *testing.T) {
	r := rand.New(rand.NewSource(1206))
	seen := codes{}
	for _, size := range []int{2, 9, 13, 130} {
		for _, s := range allSpecs(70, size) {
			for n := range size + 2 {
				f := field(70, textOf(r, min(s.Class, api.ClassX), n))
				switch {
				case s.Class == api.ClassT:
					f = kids(70, leaf(90, f.Value))
				case s.Class == api.ClassS:
					f = kids(70, leaf(7, textOf(r, api.ClassANS, n)))
				case size > 50 && n > 11 && n < 98:
					continue
				}
				seen[written(t, one(s), of("0200", f))]++
			}
		}
	}
	seen.enough(t, 500, api.OK, api.ErrValue)
}

func TestManyMessagesWritten(t *testing.T) {
	seen := codes{}
	r := rand.New(rand.NewSource(1207))
	for range 6000 {
		d := rightDialect(r)
		if len(d.Rules) == 0 {
			continue
		}
		m := rightMessage(r, d, oneOf(r, d.Rules...))
		if e := written(t, d, m); e != api.OK {
			t.Errorf("the test made a message that does not fit: %d", e)
		}
		for range 4 {
			seen[written(t, d, bentMessage(r, m))]++
		}
		seen[written(t, bentDialect(r, d), m)]++
	}
	seen.enough(t, 100, api.OK, api.ErrMTI, api.ErrField, api.ErrValue, api.ErrMust)
	seen.enough(t, 20, api.ErrMay, api.ErrName, api.ErrVersion, api.ErrClass, api.ErrSize, api.ErrRule, api.ErrMAC)
}
