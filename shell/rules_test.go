package shell_test

import (
	"cmp"
	"fmt"
	"go/ast"
	"go/parser"
	"go/token"
	"io/fs"
	"math"
	"math/rand"
	"reflect"
	"runtime"
	"slices"
	"strings"
	"sync"
	"testing"
	"unsafe"

	"turnstile/api"
	"turnstile/core"
	"turnstile/route"
	"turnstile/shell"
)

// What holds of all calls (P1 to P5).

// TestAnyBytes: each call ends, and answers as the second reading does.
func TestAnyBytes(t *testing.T) {
	r := rand.New(rand.NewSource(2511))
	pieces := []string{" ", "\n", "#", "go", "link", "$", "=", "-", "\t", "0", "1", "dialect d 0 ascii ascii 0\n", "start 2026-11-15 12:00:00\n", "table 1 1 1 1 1\n", "queue 1 1 1\n", "field", "\x00", "\xFF", "view\n", "send shop 0200 ", "2="}
	for range 20000 {
		var s string
		switch r.Intn(3) {
		case 0:
			s = bytesOf(r, r.Intn(40))
		case 1:
			for range r.Intn(12) {
				s += oneOf(r, pieces...)
			}
		case 2:
			s = head + oneOf(r, "", "up shop\n") + bytesOf(r, r.Intn(20))
		}
		holds(t, "any bytes", s)
		runsAs(t, s)
	}
}

// edges are numbers that may go wrong.
var edges = []int{math.MinInt, -1, 0, 1, 2, 3, 4, 5, 6, 9, 10, 64, 65, 128, 129, 9999, 10000, 100000, 100001, 999999999999, 1000000000000, api.MaxMoment, api.MaxMoment + 1, math.MaxInt}

// bend makes something of a configuration another thing.
func bend(r *rand.Rand, c *api.Config) {
	n, s := oneOf(r, edges...), oneOf(r, "", "x", "X", "shop", "one", "0200", bytesOf(r, 8), bytesOf(r, 16), strings.Repeat("a", 17))
	var d *api.Dialect
	var l *api.Link
	if len(c.Dialects) > 0 {
		d = &c.Dialects[r.Intn(len(c.Dialects))]
	}
	if len(c.Links) > 0 {
		l = &c.Links[r.Intn(len(c.Links))]
	}
	switch k := r.Intn(12); {
	case k == 0:
		*oneOf(r, &c.Start, &c.Pending, &c.Timeout, &c.Late, &c.Queue, &c.Retry, &c.Tries, &c.Cards, &c.Numbers) = n
	case k == 1 && d != nil:
		*oneOf(r, &d.Version, &d.MTIEnc, &d.MapEnc, &d.MAC) = n
	case k == 2 && d != nil && len(d.Fields) > 0:
		f := &d.Fields[r.Intn(len(d.Fields))]
		*oneOf(r, &f.Number, &f.Class, &f.Enc, &f.Digits, &f.LenEnc, &f.Size) = n
	case k == 3 && d != nil && len(d.Rules) > 0:
		d.Rules[r.Intn(len(d.Rules))] = api.Rule{MTI: s, Must: []int{n}, May: []int{n, 2}}
	case k < 6 && l != nil:
		*oneOf(r, &l.Role, &l.Dialect, &l.Header, &l.Most, &l.MAC, &l.Pad, &l.Echo, &l.Answer) = n
	case k < 8 && l != nil:
		*oneOf(r, &l.Name, &l.ID, &l.Key, &l.PIN, &l.Exchange) = s
	case k == 8 && len(c.Groups) > 0:
		g := &c.Groups[r.Intn(len(c.Groups))]
		g.Links = append(g.Links, n)
	case k == 9 && len(c.Groups) > 0:
		g := &c.Groups[r.Intn(len(c.Groups))]
		*oneOf(r, &g.Standin.Single, &g.Standin.Count, &g.Standin.Sum, &g.Standin.Window) = n
	case k == 10 && len(c.Routes) > 0:
		c.Routes[r.Intn(len(c.Routes))] = api.Route{Prefix: s, Group: n}
	}
}

// TestPrintAnything: of configurations that are bent this way and that.
func TestPrintAnything(t *testing.T) {
	r := rand.New(rand.NewSource(2512))
	seen := map[api.Errno]int{}
	for range 20000 {
		c := plainly(wantShort())
		for range 1 + r.Intn(2) {
			bend(r, &c)
		}
		e, _ := route.Right(c)
		seen[e]++
		if e != api.OK {
			printsNot(t, "a bent configuration", c, e)
			continue
		}
		prints(t, "a bent configuration", c, printed(c))
	}
	if seen[api.OK] < 1000 || seen[api.ErrLink] < 1000 {
		t.Errorf("the test saw %v", seen)
	}
}

// room is texts that all stand in bytes which can be written over.
type room struct{ bytes []byte }

func (x *room) text(s string) string {
	if s == "" {
		return ""
	}
	at := len(x.bytes)
	x.bytes = append(x.bytes, s...)
	return unsafe.String(&x.bytes[at], len(s))
}

// TestTextsAreNotKept: what becomes of the bytes that were handed in does not show in answers.
func TestTextsAreNotKept(t *testing.T) {
	r := rand.New(rand.NewSource(2513))
	for range 50 {
		c := someConfig(r)
		x := room{make([]byte, 0, 200_000)}
		read, e, _ := shell.Config(x.text(printed(c)))
		if e != api.OK {
			t.Fatalf("S1: Config is %s", nameOf(e))
		}
		clear(x.bytes)
		if !same(read, c) {
			t.Fatalf("P3: when the text is written over, the configuration is %+v; must be %+v", read, c)
		}
		x = room{make([]byte, 0, 200_000)}
		for i := range read.Dialects {
			read.Dialects[i].Name = x.text(read.Dialects[i].Name)
			for k := range read.Dialects[i].Rules {
				read.Dialects[i].Rules[k].MTI = x.text(read.Dialects[i].Rules[k].MTI)
			}
		}
		for i := range read.Links {
			l := &read.Links[i]
			l.Name, l.ID, l.Key, l.PIN, l.Exchange = x.text(l.Name), x.text(l.ID), x.text(l.Key), x.text(l.PIN), x.text(l.Exchange)
		}
		for i := range read.Groups {
			read.Groups[i].Name = x.text(read.Groups[i].Name)
		}
		for i := range read.Routes {
			read.Routes[i].Prefix = x.text(read.Routes[i].Prefix)
		}
		s, _ := shell.Print(read)
		clear(x.bytes)
		if s != printed(c) {
			t.Fatal("P3: when the configuration is written over, its text is another one")
		}
	}
	for range 5 {
		w := someScript(r, 60)
		x := room{make([]byte, 0, 200_000)}
		s, _, _ := shell.Run(x.text(w.script.String()), core.Tree)
		clear(x.bytes)
		if s != w.told.String() {
			t.Fatal("P3: when the script is written over, what is told is another thing")
		}
	}
}

// behind is a configuration with what stands behind its lists in their arrays, as a text.
func behind(c api.Config) string {
	var s strings.Builder
	for _, d := range c.Dialects[:cap(c.Dialects)] {
		fmt.Fprint(&s, d.Name, d.Version, d.MTIEnc, d.MapEnc, d.MAC, d.Fields[:cap(d.Fields)])
		for _, r := range d.Rules[:cap(d.Rules)] {
			fmt.Fprint(&s, r.MTI, r.Must[:cap(r.Must)], r.May[:cap(r.May)])
		}
	}
	fmt.Fprint(&s, c.Links[:cap(c.Links)], c.Routes[:cap(c.Routes)])
	for _, g := range c.Groups[:cap(c.Groups)] {
		fmt.Fprint(&s, g.Name, g.Standin, g.Links[:cap(g.Links)])
	}
	return s.String()
}

// TestPrintWritesNowhere: nor behind the lists of what is handed in.
func TestPrintWritesNowhere(t *testing.T) {
	r := rand.New(rand.NewSource(2514))
	for range 100 {
		c := someConfig(r)
		c.Links = slices.Grow(c.Links, 3)
		c.Routes = append(c.Routes, api.Route{Prefix: "9"})[:len(c.Routes)]
		for i := range c.Dialects {
			for k := range c.Dialects[i].Rules {
				x := &c.Dialects[i].Rules[k]
				x.Must = append(slices.Clone(x.Must), 99)[:len(x.Must)]
				x.May = append(slices.Clone(x.May), 99)[:len(x.May)]
			}
		}
		for i := range c.Groups {
			c.Groups[i].Links = append(c.Groups[i].Links, 99)[:len(c.Groups[i].Links)]
		}
		before := behind(c)
		shell.Print(c)
		if behind(c) != before {
			t.Fatal("P3: Print writes into what was given")
		}
	}
}

// span is memory that a list or a text has, spare room too.
type span struct{ from, to uintptr }

func listSpan[T any](l []T) span {
	var one T
	from := uintptr(unsafe.Pointer(unsafe.SliceData(l)))
	return span{from, from + uintptr(cap(l))*unsafe.Sizeof(one)}
}

func textSpan(s string) span {
	from := uintptr(unsafe.Pointer(unsafe.StringData(s)))
	return span{from, from + uintptr(len(s))}
}

func configSpans(c api.Config) []span {
	all := []span{listSpan(c.Dialects), listSpan(c.Links), listSpan(c.Groups), listSpan(c.Routes)}
	for _, d := range c.Dialects {
		all = append(all, textSpan(d.Name), listSpan(d.Fields), listSpan(d.Rules))
		for _, r := range d.Rules {
			all = append(all, textSpan(r.MTI), listSpan(r.Must), listSpan(r.May))
		}
	}
	for _, l := range c.Links {
		all = append(all, textSpan(l.Name), textSpan(l.ID), textSpan(l.Key), textSpan(l.PIN), textSpan(l.Exchange))
	}
	for _, g := range c.Groups {
		all = append(all, textSpan(g.Name), listSpan(g.Links))
	}
	for _, r := range c.Routes {
		all = append(all, textSpan(r.Prefix))
	}
	return all
}

// shared tells whether two of some spans have memory in common.
func shared(l []span) bool {
	l = slices.DeleteFunc(slices.Clone(l), func(s span) bool { return s.from == s.to || s.to-s.from == 1 }) // texts of one byte may be the language's own
	slices.SortFunc(l, func(a, b span) int { return cmp.Compare(a.from, b.from) })
	for i := 1; i < len(l); i++ {
		if l[i].from < l[i-1].to {
			return true
		}
	}
	return false
}

// TestNewMemory: each time that something is told it is memory of its own.
func TestNewMemory(t *testing.T) {
	r := rand.New(rand.NewSource(2515))
	for range 50 {
		c := someConfig(r)
		text := printed(c)
		one, _, _ := shell.Config(text)
		two, _, _ := shell.Config(text)
		s, _ := shell.Print(one)
		k, _ := shell.Print(one)
		all := slices.Concat(configSpans(one), configSpans(two), []span{textSpan(text), textSpan(s), textSpan(k)})
		if shared(all) {
			t.Fatal("P3: memory is told twice, or was handed in")
		}
		runtime.KeepAlive([]any{c, text, one, two, s, k})
	}
}

// TestRefusedIsNothing: with an error all else is nothing.
func TestRefusedIsNothing(t *testing.T) {
	for _, x := range []struct{ from, to string }{{"queue 6 4 7", "queue 6 4 0"}, {"queue 6 4 7", "queue 6 4"}, {"queue 6 4 7", ""}, {"wait 50 3", "wait 50 0"}} {
		text := changed(t, short, x.from, x.to)
		if c, e, _ := shell.Config(text); e == api.OK || !reflect.DeepEqual(c, api.Config{}) {
			t.Errorf("P2: with %s comes %+v", nameOf(e), c)
		}
		if s, e, _ := shell.Run(text+"go\nup shop\nview\n", core.Scan); e == api.OK || s != "" {
			t.Errorf("P2: with %s comes %q", nameOf(e), s)
		}
	}
}

// told is what many calls answer, as texts.
func told() []string {
	var l []string
	r := rand.New(rand.NewSource(2516))
	for range 6 {
		c := someConfig(r)
		s, e := shell.Print(c)
		l = append(l, fmt.Sprint(s, e))
		read, e, n := shell.Config(s[:r.Intn(len(s)+1)])
		l = append(l, fmt.Sprintf("%+v %v %v", read, e, n))
		w := someScript(r, 60)
		s, e, n = shell.Run(w.script.String(), 1+r.Intn(2))
		l = append(l, fmt.Sprint(s, e, n))
	}
	return l
}

// TestSameWhoever: the same calls answer the same, whatever was asked between, and by whom (T7).
func TestSameWhoever(t *testing.T) {
	first := told()
	var group sync.WaitGroup
	for range 4 {
		group.Go(func() {
			if !slices.Equal(first, told()) {
				t.Error("P4: the same calls answer another thing once more")
			}
		})
	}
	group.Wait()
}

// TestNothingGoesOn: when a call has answered no goroutine is left behind.
func TestNothingGoesOn(t *testing.T) {
	before := runtime.NumGoroutine()
	r := rand.New(rand.NewSource(2517))
	for range 5 {
		runs(t, someScript(r, 60).script.String())
	}
	if n := runtime.NumGoroutine(); n > before {
		t.Errorf("P1: behind all calls there are %d goroutines; there were %d", n, before)
	}
}

// TestNothingMoreIsExported: the package has the chapter's calls, and no others.
func TestNothingMoreIsExported(t *testing.T) {
	packs, err := parser.ParseDir(token.NewFileSet(), ".", func(f fs.FileInfo) bool { return !strings.HasSuffix(f.Name(), "_test.go") }, 0)
	if err != nil {
		t.Fatal(err)
	}
	var names []string
	for _, p := range packs {
		for _, f := range p.Files {
			for _, d := range f.Decls {
				switch x := d.(type) {
				case *ast.FuncDecl:
					names = append(names, x.Name.Name)
				case *ast.GenDecl:
					for _, s := range x.Specs {
						switch y := s.(type) {
						case *ast.TypeSpec:
							names = append(names, y.Name.Name)
						case *ast.ValueSpec:
							for _, n := range y.Names {
								names = append(names, n.Name)
							}
						}
					}
				}
			}
		}
	}
	names = slices.DeleteFunc(names, func(n string) bool { return !ast.IsExported(n) })
	slices.Sort(names)
	if want := []string{"Config", "Print", "Run"}; !slices.Equal(names, want) {
		t.Errorf("25: exported are %q; must be %q", names, want)
	}
}

// TestMuchOfEach: as many lines of a kind as a text has room for; they are read at once, whether route.Right takes them or not.
func TestMuchOfEach(t *testing.T) {
	fill := func(ahead, line, behind string) string {
		return ahead + strings.Repeat(line, (100000-len(ahead)-len(behind))/len(line)) + behind
	}
	rest := "start 2026-11-15 12:00:00\ntable 2 5 10 3 999999\nqueue 6 4 7\n"
	d := "dialect d 0 ascii ascii 0\n"
	l := d + "link l issuer d two 1 1\nwait 0 1\n"
	for _, x := range []struct {
		text string
		e    api.Errno
	}{
		{fill("", "dialect d 0 ascii ascii 0\n", rest), api.ErrMany},
		{fill(d, "field 2 n ascii fixed 1\n", rest), api.ErrMany},
		{fill(d, "rule 0200 must may\n", rest), api.ErrMany},
		{fill(d+"field 2 n ascii var 2 ascii 19\nrule 0200 must", " 2", " may\n"+rest), api.ErrRule},
		{fill(d, "link l issuer d two 1 1\n", rest), api.ErrMany},
		{fill(l, "group g 0 0 0 1 l\n", rest), api.ErrMany},
		{fill(l+"group g 0 0 0 1", " l", "\n"+rest), api.ErrGroup},
		{fill(l+"group g 0 0 0 1 l\n", "route 4 g\n", rest), api.ErrMany},
		{fill(l, "#\n", rest), api.OK},
	} {
		if e := holds(t, "much of one kind", x.text); e != x.e {
			t.Errorf("S1: much of one kind is %s; must be %s", nameOf(e), nameOf(x.e))
		}
	}
	script := l + rest + "go\n"
	for _, line := range []string{"up l\n", "down l\n", "view\n", "tick 1\n", "waiting\n", "queued l\n", "key l 00\n", "send l 0200\n", "bytes l 00\n", "check\n"} {
		if s := runs(t, fill(script, line, "check\n")); !strings.HasSuffix(s, " same\n") {
			t.Errorf("S5: behind many lines `%s` check tells %q", line, s[max(0, len(s)-40):])
		}
	}
	var fields []string
	for n := range 1000 {
		fields = append(fields, fmt.Sprintf("%d=%s", 999-n, strings.Repeat("x", 80)))
	}
	tells(t, runs(t, script+"send l 0200 "+strings.Join(fields, " ")+"\n"), "? 110\n")
}
