package scan_test

import (
	"math/rand"
	"slices"
	"strings"
	"testing"

	"turnstile/api"
	"turnstile/tree"
)

// wantPatched is the message that Patch is to write: each number that there can be is looked up, by itself.
func wantPatched(m api.Message, mti string, fields []api.Field, gone []int) api.Message {
	want := api.Message{MTI: mti}
	var numbers []int
	for _, f := range slices.Concat(m.Fields, fields) {
		numbers = append(numbers, f.Number)
	}
	slices.Sort(numbers)
	for _, n := range slices.Compact(numbers) {
		own, there := lastOf(m.Fields, n)
		other, given := lastOf(fields, n)
		switch {
		case given:
			want.Fields = append(want.Fields, other)
		case there && !slices.Contains(gone, n):
			want.Fields = append(want.Fields, own)
		}
	}
	return want
}

func lastOf(l []api.Field, n int) (api.Field, bool) {
	for i := len(l) - 1; i >= 0; i-- {
		if l[i].Number == n {
			return l[i], true
		}
	}
	return api.Field{}, false
}

// patchIs holds Patch of the scanner's message against what must be told.
func patchIs(t *testing.T, x made, mti string, fields []api.Field, gone []int, want string, e api.Errno, n int) {
	t.Helper()
	if b, f, at := x.s.Patch(mti, fields, gone); b != want || f != e || at != n {
		t.Errorf("13.6: Patch(%q, %.200v, %v) of %.200v = %.200x, %d, %d; must be %.200x, %d, %d", mti, fields, gone, x.s.Message(), b, f, at, want, e, n)
	}
}

// patches holds Patch of bytes, which are a message, against Build of what it is to write, and is the error.
func patches(t *testing.T, x made, b, mti string, fields []api.Field, gone []int) api.Errno {
	t.Helper()
	if defect := x.s.Scan(b); defect.Code != api.OK {
		t.Fatalf("13.4: Scan(%.200x) = %v", b, defect)
	}
	had := wantRead(x.d, b)
	want, e, n := tree.Build(x.d, wantPatched(had.m, mti, fields, gone))
	patchIs(t, x, mti, fields, gone, want, e, n)
	has(t, x.s, had)
	return e
}

func TestPatchExamples(t *testing.T) {
	x := compiled(t, example())
	patchIs(t, x, "0200", nil, nil, "", api.ErrState, 0)
	patchIs(t, x, "0210", []api.Field{field(4, "x")}, []int{3}, "", api.ErrState, 0)
	x.s.Scan(short)
	ahead := short[:26]
	for _, c := range []struct {
		mti    string
		fields []api.Field
		gone   []int
		want   string
		e      api.Errno
		n      int
	}{
		{"0200", nil, nil, short, api.OK, 0},
		{"0200", []api.Field{field(11, "000043")}, nil, ahead + "\x00\x00\x43", api.OK, 0},
		{"0200", []api.Field{field(35, "4111=30")}, nil, track, api.OK, 0},
		{"0200", nil, []int{11}, "", api.ErrMust, 11},
		{"0200", nil, []int{3, 11}, "", api.ErrMust, 3},
		{"0210", nil, nil, "", api.ErrMTI, 0},
		{"", nil, nil, "", api.ErrMTI, 0},
		{"0200", []api.Field{field(11, "1"), field(11, "000044")}, []int{11}, ahead + "\x00\x00\x44", api.OK, 0},
		{"0200", []api.Field{field(11, "000044"), field(11, "1")}, nil, "", api.ErrValue, 11},
		{"0200", []api.Field{field(35, "4111=30"), field(11, "000042"), field(3, "000000")}, []int{35, 3, 11, 3}, track, api.OK, 0},
		{"0200", nil, []int{35, 4, 1, 0, -1, 129}, short, api.OK, 0},
		{"0200", []api.Field{field(0, "1")}, nil, "", api.ErrField, 0},
		{"0200", []api.Field{field(200, "1"), field(4, "1"), field(-7, "1")}, nil, "", api.ErrField, -7},
		{"0200", []api.Field{field(200, "1"), field(4, "1")}, nil, "", api.ErrField, 4},
		{"0200", []api.Field{field(4, "1")}, []int{3}, "", api.ErrMust, 3},
		{"0200", []api.Field{{Number: 35}}, nil, "", api.ErrValue, 35},
		{"0200", []api.Field{kids(3, leaf(1, ""))}, nil, "", api.ErrValue, 3},
	} {
		patchIs(t, x, c.mti, c.fields, c.gone, c.want, c.e, c.n)
	}
	x.s.Scan(track)
	patchIs(t, x, "0200", nil, []int{35}, short, api.OK, 0)
	patchIs(t, x, "0200", nil, []int{35, 35}, short, api.OK, 0)
	x.s.Scan("")
	patchIs(t, x, "0200", nil, []int{35}, "", api.ErrState, 0)
}

// TestPatchOfAllClasses: each field goes by itself, is another one, or stays as its bytes were.
func TestPatchOfAllClasses(t *testing.T) {
	m, parts := full()
	x := compiled(t, rich())
	all := strings.Join(parts, "")
	x.s.Scan(all)
	patchIs(t, x, "1100", nil, nil, all, api.OK, 0)
	patchIs(t, x, "1800", nil, nil, "", api.ErrMay, 3)
	patchIs(t, x, "1800", nil, []int{3, 28, 43, 48, 55, 64, 66, 102}, "\x18\x00\xC0\x00\x00\x00\x00\x00\x00\x00\x00\x00\x00\x00\x00\x00\x00\x01"+parts[2]+parts[11], api.OK, 0)
	patchIs(t, x, "1100", []api.Field{kids(48, leaf(7, ""))}, nil, strings.Join(parts[:6], "")+"\x00\x040700"+strings.Join(parts[7:], ""), api.OK, 0)
	patchIs(t, x, "1100", []api.Field{kids(55, leaf(90, ""))}, []int{55}, strings.Join(parts[:7], "")+"\x00\x02\x5A\x00"+strings.Join(parts[8:], ""), api.OK, 0)
	patchIs(t, x, "1100", []api.Field{field(28, "C1")}, nil, strings.Join(parts[:4], "")+"\x02C1"+strings.Join(parts[5:], ""), api.OK, 0)
	for _, f := range m.Fields {
		e := patches(t, x, all, "1100", nil, []int{f.Number})
		if must := f.Number == 3 || f.Number == 128; must != (e == api.ErrMust) || !must && e != api.OK {
			t.Errorf("13.6: without the field %d: %d", f.Number, e)
		}
		patches(t, x, all, "1100", []api.Field{f}, []int{f.Number})
		patches(t, x, all, "1100", []api.Field{{Number: f.Number}, f}, nil)
		patches(t, x, all, "1100", []api.Field{f, {Number: f.Number}}, nil)
	}
}

// TestPatchThatIsTooLong: what Build says of that.
func TestPatchThatIsTooLong(t *testing.T) {
	d := example()
	d.Fields = append(d.Fields, api.FieldSpec{Number: 60, Class: api.ClassB, Enc: api.BINARY, Digits: 4, LenEnc: api.BINARY, Size: 9999})
	d.Rules[0].May = append(d.Rules[0].May, 60)
	x := compiled(t, d)
	for n, e := range map[int]api.Errno{9967: api.OK, 9968: api.OK, 9969: api.ErrLength, 9999: api.ErrLength, 10000: api.ErrValue} {
		if f := patches(t, x, short, "0200", []api.Field{field(60, strings.Repeat("v", n))}, nil); f != e {
			t.Errorf("13.6: with %d bytes more: %d", n, f)
		}
	}
}

// randomPatch is fields and numbers, of which some are and some may be those of a dialect.
func randomPatch(r *rand.Rand, d api.Dialect) (fields []api.Field, gone []int) {
	for range r.Intn(5) {
		n := oneOf(r, edges...)
		if len(d.Fields) > 0 && r.Intn(10) > 0 {
			s := oneOf(r, d.Fields...)
			n = s.Number
			fields = append(fields, rightField(r, s))
		}
		switch r.Intn(12) {
		case 0:
			fields = append(fields, field(n, oneOf(r, "", "1", "C1", "abc")))
		case 4:
			fields = append(fields, field(oneOf(r, edges...), "1"))
		case 1, 2, 3:
			gone = append(gone, n)
		}
	}
	return fields, gone
}

func TestManyPatches(t *testing.T) {
	r := rand.New(rand.NewSource(1312))
	seen := codes{}
	for range 2000 {
		d := rightDialect(r)
		if r.Intn(3) == 0 {
			d = lenient(d)
		}
		x := compiled(t, d)
		for _, rule := range d.Rules {
			b, _, _ := x.table.Build(rightMessage(r, d, rule))
			mti := oneOf(r, rule.MTI, rule.MTI, rule.MTI, rule.MTI, rule.MTI, oneOf(r, d.Rules...).MTI, "", "9999")
			fields, gone := randomPatch(r, d)
			seen[patches(t, x, b, mti, fields, gone)]++
		}
	}
	seen.enough(t, 200, api.OK, api.ErrMTI, api.ErrField, api.ErrMust, api.ErrMay, api.ErrValue)
}
