package message_test

import (
	"math/rand"
	"slices"
	"testing"

	"turnstile/api"
	"turnstile/message"
)

func messageIs(t *testing.T, what string, got, want api.Message) {
	t.Helper()
	if seen(got) != seen(want) {
		t.Errorf("%s = %.300s, must be %.300s", what, seen(got), seen(want))
	}
}

// rows are messages whose fields stand in any order, some of them twice.
func rows(seed int64, n int) []api.Message {
	r := rand.New(rand.NewSource(seed))
	l := []api.Message{{}, of("x"), of("0100", field(2, "a"), field(3, "b"), field(2, "c")), of("0100", field(2, ""), field(2, "a"))}
	for range n {
		m := of(oneOf(r, "0100", "", "x", "1430"))
		for range r.Intn(8) {
			f := someField(r, oneOf(r, 2, 3, 7, 11, 41, 65, 0, -1, 129))
			if r.Intn(4) == 0 {
				f.Value, f.Kids = someText(r), someNodes(r, 1)
			}
			m.Fields = append(m.Fields, f)
		}
		l = append(l, m)
	}
	return l
}

func TestGet(t *testing.T) {
	for _, m := range append(rows(1102, 2000), all("0100")) {
		for _, n := range append([]int{7, 11, 41}, edges...) {
			want, has := valueOf(m, n)
			if got, ok := message.Get(m, n); got != want || ok != has {
				t.Errorf("G3: Get(%s, %d) = %q, %v, must be %q, %v", seen(m), n, got, ok, want, has)
			}
		}
	}
	for _, f := range []api.Field{kids(55, leaf(1, "x")), field(55, "")} {
		if got, ok := message.Get(of("", f), 55); got != "" || !ok {
			t.Errorf("G3: Get of %v = %q, %v", f, got, ok)
		}
	}
}

func TestWithoutAndKeep(t *testing.T) {
	r := rand.New(rand.NewSource(1103))
	lists := [][]int{nil, {}, {2}, {2, 2}, {2, 3}, {3, 2}, {-1, 0, 65, 129}, {9}, edges}
	for range 20 {
		lists = append(lists, []int{oneOf(r, edges...), oneOf(r, 2, 3, 7, 11, 41), oneOf(r, 2, 3, 7, 11, 41)})
	}
	for _, m := range append(rows(1104, 500), all("0100")) {
		for _, l := range lists {
			messageIs(t, "G3: Without", message.Without(m, l...), those(m, false, l...))
			messageIs(t, "G3: Keep", message.Keep(m, l...), those(m, true, l...))
		}
		messageIs(t, "G3: Without none", message.Without(m), m)
		messageIs(t, "G3: Keep none", message.Keep(m), of(m.MTI))
		messageIs(t, "G3: Copy", message.Copy(m), m)
	}
}

// changes are messages that differ from {0100: 2 a, 55 with nodes} in one thing each.
func changes() []api.Message {
	nodes := func() []api.Node { return []api.Node{leaf(1, "x"), inner(2, leaf(3, "y"), leaf(4, ""))} }
	l := []api.Message{of("0100", field(2, "a"), kids(55, nodes()...))}
	change := func(what func(m *api.Message)) {
		m := of("0100", field(2, "a"), kids(55, nodes()...))
		what(&m)
		l = append(l, m)
	}
	change(func(m *api.Message) { m.MTI = "0101" })
	change(func(m *api.Message) { m.MTI = "" })
	change(func(m *api.Message) { m.Fields[0].Number = 3 })
	change(func(m *api.Message) { m.Fields[0].Value = "b" })
	change(func(m *api.Message) { m.Fields[0].Value = "" })
	change(func(m *api.Message) { m.Fields[0].Kids = leaves(1) })
	change(func(m *api.Message) { m.Fields = m.Fields[:1] })
	change(func(m *api.Message) { m.Fields = m.Fields[1:] })
	change(func(m *api.Message) { m.Fields = nil })
	change(func(m *api.Message) { slices.Reverse(m.Fields) })
	change(func(m *api.Message) { m.Fields = append(m.Fields, m.Fields[1]) })
	change(func(m *api.Message) { m.Fields[1].Value = "a" })
	change(func(m *api.Message) { m.Fields[1].Kids = nil })
	change(func(m *api.Message) { m.Fields[1].Kids = m.Fields[1].Kids[:1] })
	change(func(m *api.Message) { m.Fields[1].Kids = m.Fields[1].Kids[1:] })
	change(func(m *api.Message) { slices.Reverse(m.Fields[1].Kids) })
	change(func(m *api.Message) { m.Fields[1].Kids[0].Tag = 2 })
	change(func(m *api.Message) { m.Fields[1].Kids[0].Value = "y" })
	change(func(m *api.Message) { m.Fields[1].Kids[0].Kids = leaves(1) })
	change(func(m *api.Message) { m.Fields[1].Kids[1].Value = "z" })
	change(func(m *api.Message) { m.Fields[1].Kids[1].Kids[1].Tag = 5 })
	change(func(m *api.Message) { m.Fields[1].Kids[1].Kids[1].Value = "z" })
	change(func(m *api.Message) { m.Fields[1].Kids[1].Kids = m.Fields[1].Kids[1].Kids[:1] })
	change(func(m *api.Message) { m.Fields[1].Kids[1].Kids[1].Kids = leaves(1) })
	return l
}

func TestSame(t *testing.T) {
	for i, a := range changes() {
		for j, b := range changes() {
			if message.Same(a, b) != (i == j) {
				t.Errorf("G3: Same(%s, %s) = %v", seen(a), seen(b), i != j)
			}
		}
	}
	l := rows(1105, 300)
	for _, a := range l {
		for _, b := range l {
			if want := seen(a) == seen(b); message.Same(a, b) != want {
				t.Errorf("G3: Same(%s, %s) = %v", seen(a), seen(b), !want)
			}
		}
	}
	none := of("0100", api.Field{Number: 2, Kids: []api.Node{{Tag: 1, Kids: []api.Node{}}}}, api.Field{Number: 3, Kids: []api.Node{}})
	if !message.Same(none, of("0100", kids(2, leaf(1, "")), field(3, ""))) || !message.Same(of("x"), api.Message{MTI: "x", Fields: []api.Field{}}) {
		t.Error("G3: Same: nil and empty lists are not the same")
	}
}

func withMust(t *testing.T, m api.Message, f api.Field) api.Errno {
	t.Helper()
	want, e := withIs(m, f)
	got, g := message.With(m, f)
	if g != e || seen(got) != seen(want) {
		t.Errorf("G4: With(%.300s, %.300s) = %.300s, %d, must be %.300s, %d", seen(m), seen(of("", f)), seen(got), g, seen(want), e)
	}
	return e
}

func TestWith(t *testing.T) {
	m := of("0100", field(2, "a"), kids(11, leaves(2)...), field(128, "c"))
	for n := -200; n <= 200; n++ {
		for _, o := range []api.Message{m, of("0100"), all("1230")} {
			withMust(t, o, field(n, "x"))
			withMust(t, o, kids(n, leaf(0, "x")))
			withMust(t, o, field(n, ""))
		}
	}
	for _, n := range edges {
		withMust(t, m, field(n, "x"))
	}
	many := someMessages(1106, 1500)
	r := rand.New(rand.NewSource(1107))
	counts := map[api.Errno]int{}
	for _, m := range many {
		f := someField(r, oneOf(r, told...))
		if r.Intn(3) == 0 {
			f = bent(r, of("0100", f)).Fields[0]
		}
		counts[withMust(t, m, f)]++
	}
	if len(counts) != 5 {
		t.Errorf("the test had the errors %v only", counts)
	}
}

// TestWithRefuses: of several errors the first one is told.
func TestWithRefuses(t *testing.T) {
	wrong := field(1, "")
	for _, f := range []api.Field{field(2, ""), field(65, "x"), {Number: 65, Value: "x", Kids: leaves(1)}, {Number: 2, Value: "x", Kids: leaves(1)}, kids(2, leaf(-1, "")), kids(2, nested(9)...), kids(2, nested(8)...), kids(2, leaves(501)...), kids(2, leaves(500)...), kids(129, leaves(501)...)} {
		for _, m := range []api.Message{of("0400"), of("0400", wrong), of("0100", wrong), of("0100", field(3, ""), field(2, "")), of("0100"), of("", field(2, ""))} {
			withMust(t, m, f)
		}
	}
}

func TestKey(t *testing.T) {
	for _, m := range append(rows(1108, 1000), all("0800"), all("1421"), all("0400")) {
		for _, link := range []int{0, 3, -1, 1 << 40} {
			want := api.Key{Link: link}
			if isType(m.MTI) {
				want.Class = int(m.MTI[1]) - 48
			}
			want.Number, _ = valueOf(m, 11)
			want.Stamp, _ = valueOf(m, 7)
			want.Terminal, _ = valueOf(m, 41)
			if got := message.Key(m, link); got != want {
				t.Errorf("G5: Key(%s, %d) = %v, must be %v", seen(m), link, got, want)
			}
		}
	}
	if got := message.Key(of("1201", field(7, "s"), field(11, "n"), field(41, "t"), field(42, "u")), 5); got != (api.Key{Link: 5, Class: 2, Number: "n", Stamp: "s", Terminal: "t"}) {
		t.Errorf("G5: Key = %v", got)
	}
}
