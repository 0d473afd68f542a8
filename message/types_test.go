package message_test

import (
	"strings"
	"testing"

	"turnstile/api"
	"turnstile/message"
)

// asked are texts that may be types: all of four digits, and types with one byte another, more or less.
func asked() []string {
	l := []string{"", "0", "01", "010", "01000", "0100\x00", "0100\n", " 100", "٠١٠٠", strings.Repeat("0", 400)}
	for n := range 10000 {
		l = append(l, string([]byte{byte('0' + n/1000), byte('0' + n/100%10), byte('0' + n/10%10), byte('0' + n%10)}))
	}
	for _, s := range allTypes() {
		l = append(l, s[:3], s[1:], s+"0", "0"+s)
		for i := range s {
			for c := range 256 {
				l = append(l, s[:i]+string([]byte{byte(c)})+s[i+1:])
			}
		}
	}
	return l
}

func TestTypes(t *testing.T) {
	for _, s := range asked() {
		ok := isType(s)
		if message.Right(s) != ok {
			t.Errorf("G1: Right(%q) = %v, must be %v", s, !ok, ok)
		}
		class, function := 0, 0
		if ok {
			class, function = strings.IndexByte("0123456789", s[1]), strings.IndexByte("0123456789", s[2])
		}
		if message.Class(s) != class || message.Function(s) != function {
			t.Errorf("G1: Class(%q), Function = %d, %d, must be %d, %d", s, message.Class(s), message.Function(s), class, function)
		}
	}
	if len(allTypes()) != 42 {
		t.Errorf("the test has %d types", len(allTypes()))
	}
}

func TestTypesOfTheExamples(t *testing.T) {
	for s, want := range map[string]bool{"0100": true, "1421": true, "0110": true, "0111": false, "0400": false, "0820": false, "2100": false} {
		if message.Right(s) != want {
			t.Errorf("G1: Right(%q) = %v, must be %v", s, !want, want)
		}
	}
	for _, c := range []struct {
		name string
		call func(string) (string, api.Errno)
		s    string
		want string
		e    api.Errno
	}{
		{"Answer", message.Answer, "0101", "0110", api.OK}, {"Answer", message.Answer, "0420", "0430", api.OK}, {"Answer", message.Answer, "0110", "", api.ErrMTI},
		{"Again", message.Again, "0220", "0221", api.OK},
		{"Told", message.Told, "0200", "0220", api.OK}, {"Told", message.Told, "0800", "", api.ErrMTI},
	} {
		if got, e := c.call(c.s); got != c.want || e != c.e {
			t.Errorf("G2: %s(%q) = %q, %d, must be %q, %d", c.name, c.s, got, e, c.want, c.e)
		}
	}
	if got, e := message.In("0100", 1); got != "1100" || e != api.OK {
		t.Errorf("G2: In(0100, 1) = %q, %d", got, e)
	}
}

// TestOtherTypes: what becomes of each type stands here type by type; of all else nothing becomes.
func TestOtherTypes(t *testing.T) {
	type row struct{ answer, again, told string }
	table := map[string]row{
		"100": {"110", "101", "120"}, "101": {"110", "101", "120"}, "110": {"", "", "120"}, "120": {"130", "121", "120"}, "121": {"130", "121", "120"}, "130": {"", "", "120"},
		"200": {"210", "201", "220"}, "201": {"210", "201", "220"}, "210": {"", "", "220"}, "220": {"230", "221", "220"}, "221": {"230", "221", "220"}, "230": {"", "", "220"},
		"420": {"430", "421", ""}, "421": {"430", "421", ""}, "430": {},
		"500": {"510", "501", ""}, "501": {"510", "501", ""}, "510": {},
		"800": {"810", "801", ""}, "801": {"810", "801", ""}, "810": {},
	}
	check := func(name string, call func(string) (string, api.Errno), s, want string) {
		e := api.ErrMTI
		if want != "" {
			want, e = s[:1]+want, api.OK
		}
		if got, g := call(s); got != want || g != e {
			t.Errorf("G2: %s(%q) = %q, %d, must be %q, %d", name, s, got, g, want, e)
		}
	}
	for _, s := range asked() {
		var r row
		if isType(s) {
			r = table[s[1:]]
		}
		check("Answer", message.Answer, s, r.answer)
		check("Again", message.Again, s, r.again)
		check("Told", message.Told, s, r.told)
	}
}

func TestVersions(t *testing.T) {
	for _, s := range asked() {
		for _, v := range []int{-1, 0, 1, 2, -1 << 63, 1<<63 - 1, 256, 257, 1 << 32, 1<<32 + 1, '0', '1'} {
			want, e := "", api.OK
			switch {
			case !isType(s):
				e = api.ErrMTI
			case v == 0:
				want = "0" + s[1:]
			case v == 1:
				want = "1" + s[1:]
			default:
				e = api.ErrArg
			}
			if got, g := message.In(s, v); got != want || g != e {
				t.Errorf("G2: In(%q, %d) = %q, %d, must be %q, %d", s, v, got, g, want, e)
			}
		}
	}
}
