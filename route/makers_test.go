package route_test

import (
	"fmt"
	"maps"
	"math"
	"math/rand"
	"slices"
	"strings"
	"sync"
	"testing"

	"turnstile/api"
	"turnstile/route"
)

// Tries and configurations to ask with: right ones, and ones that are bent here and there.

func oneOf[T any](r *rand.Rand, l ...T) T { return l[r.Intn(len(l))] }

func textOf(r *rand.Rand, alphabet string, n int) string {
	b := make([]byte, n)
	for i := range b {
		b[i] = alphabet[r.Intn(len(alphabet))]
	}
	return string(b)
}

// laid is a trie in which under each of some prefixes that prefix is laid.
func laid(t *testing.T, prefixes ...string) *route.Trie[string] {
	t.Helper()
	x := route.New[string]()
	for _, p := range prefixes {
		if e := x.Put(p, "at "+p); e != api.OK {
			t.Errorf("15.1: Put(%q) = %d; must be OK", p, e)
		}
	}
	return x
}

// told is all that an iterator tells, a line each.
func told[T any](x *route.Trie[T]) []string {
	var l []string
	for p, v := range x.All() {
		l = append(l, fmt.Sprint(p, " ", v))
	}
	return l
}

// table is the chapter's table of known fields.
const table = `2 N to 19,3 N 6,4 N 12,7 N 10,11 N 6,12 N 6,13 N 4,14 N 4,32 N to 11,35 Z to 37,37 AN 12,38 AN 6,39 AN 2,41 ANS 8,42 ANS 15,48 S any,66 N 1,70 N 3,74 N 10,75 N 10,76 N 10,77 N 10,86 N 16,87 N 16,88 N 16,89 N 16,90 N 42,49 N 3,52 B 8`

// want is what the table says of a field; a size of 0: any.
type want struct {
	class, size int
	digits      bool
}

// wants is the table by the fields' numbers; it is only read.
var wants = sync.OnceValue(readTable)

func readTable() map[int]want {
	classes := map[string]int{"N": api.ClassN, "AN": api.ClassAN, "ANS": api.ClassANS, "B": api.ClassB, "Z": api.ClassZ, "S": api.ClassS}
	all := map[int]want{}
	for _, row := range strings.Split(table, ",") {
		var number, size int
		var class string
		switch {
		case strings.HasSuffix(row, " any"):
			fmt.Sscanf(row, "%d %s any", &number, &class)
		case strings.Contains(row, " to "):
			fmt.Sscanf(row, "%d %s to %d", &number, &class, &size)
		default:
			fmt.Sscanf(row, "%d %s %d", &number, &class, &size)
		}
		all[number] = want{classes[class], size, size == 0 || strings.Contains(row, " to ")}
	}
	return all
}

// spec is a right spec of a class and a size, with a length of so many digits.
func spec(number, class, size, digits int) api.FieldSpec {
	s := api.FieldSpec{Number: number, Class: class, Enc: api.ASCII, Digits: digits, Size: size}
	if class == api.ClassB || class == api.ClassT {
		s.Enc = api.BINARY
	}
	if digits > 0 {
		s.LenEnc = api.ASCII
	}
	return s
}

// knownSpecs are right specs of some of the known fields; of none named: of all.
func knownSpecs(numbers ...int) []api.FieldSpec {
	all := wants()
	if len(numbers) == 0 {
		numbers = slices.Sorted(maps.Keys(all))
	}
	var l []api.FieldSpec
	for _, n := range numbers {
		w := all[n]
		switch {
		case w.size == 0:
			l = append(l, spec(n, w.class, 99, 3))
		case w.digits:
			l = append(l, spec(n, w.class, w.size, 2))
		default:
			l = append(l, spec(n, w.class, w.size, 0))
		}
	}
	return l
}

const (
	bytes8  = "8 bytes."
	bytes16 = "sixteen bytes ok"
)

// sealed is a dialect with all known fields and a tag, plain one without a tag.
func sealed() api.Dialect {
	return api.Dialect{
		Name: "sealed", MTIEnc: api.ASCII, MapEnc: api.BINARY, MAC: 128,
		Fields: append(knownSpecs(), spec(128, api.ClassB, 8, 0)),
		Rules:  []api.Rule{{MTI: "0200", Must: []int{2, 3, 4, 128}, May: []int{48}}, {MTI: "0800", Must: []int{128}, May: []int{70}}},
	}
}

func plain() api.Dialect {
	return api.Dialect{
		Name: "plain", Version: 1, MTIEnc: api.BCD, MapEnc: api.EBCDIC,
		Fields: knownSpecs(2, 3, 4, 7, 11, 39, 70),
		Rules:  []api.Rule{{MTI: "1200", Must: []int{2, 3}}, {MTI: "1800", May: []int{70}}},
	}
}

// good is a configuration that is right, and has of everything more than one.
func good() api.Config {
	return api.Config{
		Dialects: []api.Dialect{sealed(), plain()},
		Links: []api.Link{
			{Name: "shop", Role: api.Acquirer, Dialect: 1, Header: api.HeadFour, Most: 9999, ID: "7", Answer: 2},
			{Name: "bank", Role: api.Issuer, Header: api.HeadTwo, Most: 1, ID: "12345678901", MAC: 1, Pad: 1, Key: bytes8, Echo: 50, Answer: 3},
			{Name: "bank-2", Role: api.Issuer, Header: api.HeadBCD, Most: 500, ID: "0", MAC: 3, Pad: 2, Key: bytes16, Exchange: bytes16, PIN: bytes16, Echo: 100000, Answer: 100000},
			{Name: "till", Role: api.Acquirer, Header: api.HeadWhole, Most: 1000, ID: "12", PIN: bytes16, Echo: 1, Answer: 1},
		},
		Groups: []api.Group{
			{Name: "one", Links: []int{2, 1}, Standin: api.Limits{Single: 5000, Count: 2, Sum: 8000, Window: 60}},
			{Name: "two", Links: []int{2}, Standin: api.Limits{Single: 999999999999, Count: 999999999999, Sum: 999999999999, Window: 100000}},
			{Name: "three", Links: []int{1}, Standin: api.Limits{Window: 1}},
		},
		Routes: []api.Route{{Prefix: "4"}, {Prefix: "51", Group: 1}, {Prefix: "4111", Group: 2}, {Prefix: "12345678901", Group: 1}},
		Start:  847972800, Pending: 100, Timeout: 5, Late: 10, Queue: 20, Retry: 4, Tries: 2, Cards: 30, Numbers: 999999,
	}
}

// holds holds what Right tells of a configuration against what it must tell.
func holds(t *testing.T, what string, c api.Config, e api.Errno, n int) {
	t.Helper()
	if code, number := route.Right(c); code != e || number != n {
		t.Errorf("15.5: %s: %d, %d; must be %d, %d", what, code, number, e, n)
	}
}

// edges are numbers at which something may change.
var edges = []int{math.MinInt, -1, 0, 1, 2, 3, 4, 5, 7, 8, 9, 10, 12, 16, 19, 20, 31, 32, 33, 37, 64, 65, 99, 100, 101, 128, 999, 9999, 10000, 10001, 99999, 100000, 100001, 999999, 1000000, 3155759999, 3155760000, 999999999999, 1000000000000, math.MaxInt}

var oddNames = []string{"", "-", "a", "9", "shop", "bank", "bank-2", "one", "two", "sealed", "plain", "A", "a b", "a_b", "ä", "a\x00", "abcdefghijklmnop", "abcdefghijklmnopq"}

var oddNumbers = []string{"", "0", "4", "51", "x", "4x", "-1", "+1", " 4", "٤", "4\x00", "1234567890", "12345678901", "123456789012", strings.Repeat("1", 19)}

var oddKeys = []string{"", "7 bytes", bytes8, "9 bytes..", "fifteen bytes..", bytes16, "seventeen bytes.."}

// bend makes something of a configuration another thing, which may or may not be.
func bend(r *rand.Rand, c *api.Config) {
	switch r.Intn(12) {
	case 0:
		bendDialect(r, c)
	case 1, 2, 3, 4:
		if len(c.Links) > 0 {
			bendLink(r, &c.Links[r.Intn(len(c.Links))])
		}
	case 5, 6:
		if len(c.Groups) > 0 {
			bendGroup(r, &c.Groups[r.Intn(len(c.Groups))])
		}
	case 7, 8:
		if len(c.Routes) > 0 {
			x := &c.Routes[r.Intn(len(c.Routes))]
			*x = oneOf(r, api.Route{Prefix: oneOf(r, oddNumbers...), Group: x.Group}, api.Route{Prefix: x.Prefix, Group: oneOf(r, edges...)})
		}
	case 9, 10:
		*oneOf(r, &c.Start, &c.Pending, &c.Timeout, &c.Late, &c.Queue, &c.Retry, &c.Tries, &c.Cards, &c.Numbers) = oneOf(r, edges...)
	default:
		bendLists(r, c)
	}
}

func bendDialect(r *rand.Rand, c *api.Config) {
	if len(c.Dialects) == 0 {
		return
	}
	d := &c.Dialects[r.Intn(len(c.Dialects))]
	switch r.Intn(6) {
	case 0:
		d.Name = oneOf(r, oddNames...)
	case 1:
		d.MAC = oneOf(r, 0, 64, 128)
	case 2:
		if len(d.Rules) > 0 {
			d.Rules[r.Intn(len(d.Rules))].Must = oneOf(r, nil, []int{2}, []int{128}, []int{2, 128})
		}
	default:
		if len(d.Fields) > 0 {
			s := &d.Fields[r.Intn(len(d.Fields))]
			*s = spec(s.Number, 1+r.Intn(9), oneOf(r, s.Size, s.Size, s.Size+1, 1+r.Intn(30)), oneOf(r, s.Digits, r.Intn(5)))
		}
	}
}

func bendLink(r *rand.Rand, l *api.Link) {
	switch r.Intn(6) {
	case 0:
		l.Name = oneOf(r, oddNames...)
	case 1:
		l.ID = oneOf(r, oddNumbers...)
	case 2:
		*oneOf(r, &l.Key, &l.PIN, &l.Exchange) = oneOf(r, oddKeys...)
	case 3:
		l.MAC, l.Pad, l.Key = oneOf(r, 0, 1, 2, 3), oneOf(r, 0, 1, 2, 3), oneOf(r, oddKeys...)
	default:
		*oneOf(r, &l.Role, &l.Dialect, &l.Header, &l.Most, &l.MAC, &l.Pad, &l.Echo, &l.Answer) = oneOf(r, edges...)
	}
}

func bendGroup(r *rand.Rand, g *api.Group) {
	switch r.Intn(5) {
	case 0:
		g.Name = oneOf(r, oddNames...)
	case 1:
		g.Links = append(slices.Clone(g.Links), oneOf(r, edges...))
	case 2:
		g.Links = oneOf(r, nil, []int{}, []int{1}, []int{2, 2}, []int{0}, []int{1, 2, 1})
	default:
		*oneOf(r, &g.Standin.Single, &g.Standin.Count, &g.Standin.Sum, &g.Standin.Window) = oneOf(r, edges...)
	}
}

// bendLists makes a list longer or shorter.
func bendLists(r *rand.Rand, c *api.Config) {
	switch r.Intn(8) {
	case 0:
		c.Dialects = c.Dialects[:r.Intn(len(c.Dialects)+1)]
	case 1:
		c.Links = c.Links[:r.Intn(len(c.Links)+1)]
	case 2:
		c.Groups = c.Groups[:r.Intn(len(c.Groups)+1)]
	case 3:
		c.Routes = c.Routes[:r.Intn(len(c.Routes)+1)]
	case 4:
		c.Dialects = append(c.Dialects, manyDialects(oneOf(r, 1, 2, 30, 31))...)
	case 5:
		c.Links = append(c.Links, manyLinks(oneOf(r, 1, 2, 28, 29))...)
	case 6:
		c.Groups = append(c.Groups, manyGroups(oneOf(r, 1, 2, 29, 30))...)
	case 7:
		c.Routes = append(c.Routes, manyRoutes(oneOf(r, 1, 2, 4092, 4093))...)
	}
}

// Right ones, each with a name of its own.

func manyDialects(n int) []api.Dialect {
	l := make([]api.Dialect, n)
	for i := range l {
		l[i] = plain()
		l[i].Name = fmt.Sprint("d-", i)
	}
	return l
}

func manyLinks(n int) []api.Link {
	l := make([]api.Link, n)
	for i := range l {
		l[i] = good().Links[1]
		l[i].Name = fmt.Sprint("l-", i)
	}
	return l
}

func manyGroups(n int) []api.Group {
	l := make([]api.Group, n)
	for i := range l {
		l[i] = good().Groups[0]
		l[i].Name = fmt.Sprint("g-", i)
	}
	return l
}

func manyRoutes(n int) []api.Route {
	l := make([]api.Route, n)
	for i := range l {
		l[i].Prefix = fmt.Sprintf("9%05d", i)
	}
	return l
}

// codes counts which errors were seen.
type codes map[api.Errno]int

// enough tells of errors that were seen too seldom for a test to tell much.
func (c codes) enough(t *testing.T, least int, all ...api.Errno) {
	t.Helper()
	for _, e := range all {
		if c[e] < least {
			t.Errorf("the test saw error %d only %d times", e, c[e])
		}
	}
}
