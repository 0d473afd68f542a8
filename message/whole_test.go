package message_test

import (
	"slices"
	"testing"

	"turnstile/api"
	"turnstile/message"
)

func wholeIs(t *testing.T, want bool, m api.Message) {
	t.Helper()
	if message.Whole(m) != want {
		t.Errorf("G3: Whole(%.300s) = %v, must be %v", seen(m), !want, want)
	}
}

func TestWholeByType(t *testing.T) {
	for _, s := range asked() {
		wholeIs(t, isType(s), of(s))
	}
}

func TestWholeByNumbers(t *testing.T) {
	for n := -300; n <= 300; n++ {
		wholeIs(t, isField(n), of("0100", field(n, "x")))
	}
	for _, n := range edges {
		wholeIs(t, isField(n), of("0100", field(n, "")))
		for _, o := range edges {
			wholeIs(t, isField(n) && isField(o) && n < o, of("0100", field(n, ""), field(o, "")))
			wholeIs(t, isField(n) && isField(o) && 3 < n && n < o, of("0100", field(2, ""), field(3, ""), field(n, ""), field(o, "")))
		}
	}
	wholeIs(t, true, all("0100"))
	for i := range all("0100").Fields {
		m := all("0100")
		m.Fields = slices.Insert(m.Fields, i, m.Fields[i])
		wholeIs(t, false, m)
	}
}

func TestWholeByValues(t *testing.T) {
	for _, v := range []string{"", "x", "\x00", "\xFF\n"} {
		for _, l := range [][]api.Node{nil, {}, leaves(1), nested(3)} {
			ok := v == "" || len(l) == 0
			wholeIs(t, ok, of("0100", api.Field{Number: 55, Value: v, Kids: l}))
			wholeIs(t, ok, of("0100", kids(55, api.Node{Tag: 1, Value: v, Kids: l})))
			wholeIs(t, ok, of("0100", field(2, "y"), kids(55, leaf(1, "y"), inner(2, leaf(3, ""), api.Node{Tag: 1, Value: v, Kids: l}))))
		}
	}
	for _, tag := range edges {
		wholeIs(t, tag >= 0, of("0100", kids(55, leaf(tag, "x"))))
		wholeIs(t, tag >= 0, of("0100", kids(55, inner(tag, leaf(1, "x")))))
		wholeIs(t, tag >= 0, of("0100", field(2, "y"), kids(55, leaf(1, ""), inner(1, inner(1, leaf(2, ""), leaf(tag, "x"))), leaf(3, ""))))
	}
}

func TestWholeByDepth(t *testing.T) {
	for deep := 1; deep <= 12; deep++ {
		wholeIs(t, deep <= mostNest, of("0100", kids(55, nested(deep)...)))
		wholeIs(t, deep <= mostNest, of("0100", kids(48, nested(8)...), kids(55, append(leaves(3), nested(deep)...)...)))
		wholeIs(t, deep < mostNest, of("0100", kids(55, leaf(1, ""), inner(1, leaf(2, ""), inner(3, append(nested(2), nested(deep-min(1, deep-1))...)...)))))
	}
	wholeIs(t, true, of("0100", kids(55, api.Node{Tag: 1, Kids: []api.Node{}})))
}

func TestWholeByCount(t *testing.T) {
	for n := 490; n <= 510; n++ {
		wholeIs(t, n <= mostNodes, of("0100", kids(55, leaves(n)...)))
		wholeIs(t, n <= mostNodes, of("0100", kids(48, leaves(500)...), kids(55, inner(1, leaves(n-1)...)), field(60, "")))
		wholeIs(t, n <= mostNodes, of("0100", kids(55, append(leaves(n-9), inner(1, leaves(8)...))...)))
		wholeIs(t, n <= mostNodes, of("0100", kids(55, append([]api.Node{inner(1, leaves(8)...)}, leaves(n-9)...)...)))
		wholeIs(t, n <= mostNodes, of("0100", kids(55, append(nested(8), append(nested(8), leaves(n-16)...)...)...)))
	}
	wholeIs(t, false, of("0100", kids(55, leaves(100000)...)))
}

// TestWholeEnds: nodes that stand in many places are more than can be gone over.
func TestWholeEnds(t *testing.T) {
	l := leaves(2)
	for range 60 {
		l = []api.Node{inner(1, l...), {Tag: 2, Kids: l}}
	}
	wide := leaves(400)
	for range 7 {
		wide = slices.Repeat([]api.Node{{Tag: 1, Kids: wide}}, 400)
	}
	for _, l := range [][]api.Node{l, wide, append(leaves(1), l...)} {
		m := of("0100", field(2, ""), kids(55, l...))
		wholeIs(t, false, m)
		if _, e := message.Print(m); e != api.ErrMessage {
			t.Errorf("G9: Print = %d", e)
		}
		if _, e := message.With(m, field(2, "x")); e != api.ErrMessage {
			t.Errorf("G4: With = %d", e)
		}
		if _, e := message.With(of("0100"), kids(2, l...)); e != api.ErrValue {
			t.Errorf("G4: With = %d", e)
		}
		if _, e := message.Reply(m, "00"); e != api.ErrMessage {
			t.Errorf("G6: Reply = %d", e)
		}
		if _, e := message.Original(m); e != api.ErrMessage {
			t.Errorf("G7: Original = %d", e)
		}
		if got := message.Without(m, 55); seen(got) != seen(of("0100", field(2, ""))) {
			t.Errorf("G3: Without = %s", seen(got))
		}
		if got := message.Keep(m, 2); seen(got) != seen(of("0100", field(2, ""))) {
			t.Errorf("G3: Keep = %s", seen(got))
		}
	}
}

func TestWholeOfMany(t *testing.T) {
	yes, no := 0, 0
	for _, m := range someMessages(1101, 3000) {
		want := whole(m)
		wholeIs(t, want, m)
		if want {
			yes++
		} else {
			no++
		}
	}
	if yes < 1000 || no < 1000 {
		t.Errorf("the test had %d whole messages and %d others only", yes, no)
	}
}
