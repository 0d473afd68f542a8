package tlv_test

import (
	"math"
	"math/rand"
	"slices"
	"strings"
	"testing"

	"turnstile/api"
	"turnstile/tlv"
)

// checkBuild holds Build against the second reading.
func checkBuild(t *testing.T, l []api.Node) {
	t.Helper()
	s, e := tlv.Build(l)
	if want, we := wantBuild(l); s != want || e != we {
		t.Errorf("9.2: Build(%.200v) = %.200x, %d, must be %.200x, %d", l, s, e, want, we)
	}
}

// builds looks whether Build answers just this.
func builds(t *testing.T, want string, we api.Errno, l ...api.Node) {
	t.Helper()
	if s, e := tlv.Build(l); s != want || e != we {
		t.Errorf("9.2: Build(%.200v) = %.200x, %d, must be %.200x, %d", l, s, e, want, we)
	}
}

func TestBuildOfExamples(t *testing.T) {
	builds(t, "\x9F\x02\x06\x00\x00\x00\x00\x12\x34", api.OK, leaf(40706, "\x00\x00\x00\x00\x12\x34"))
	builds(t, "\x70\x05\x5A\x03\x41\x11\x11", api.OK, kid(112, leaf(90, "\x41\x11\x11")))
	builds(t, "", api.ErrTag, kid(90, leaf(90, "")))
	builds(t, "", api.OK)
}

func TestBuildOfOrdinary(t *testing.T) {
	builds(t, "\x70\x00", api.OK, kid(112))
	builds(t, "\x5A\x00", api.OK, leaf(90, ""))
	builds(t, "\x70\x00\x5A\x00", api.OK, api.Node{Tag: 112, Kids: []api.Node{}}, api.Node{Tag: 90, Kids: []api.Node{}})
	builds(t, "\x70\x06\x70\x02\x5A\x00\x5A\x00\x5A\x01x", api.OK, kid(112, kid(112, leaf(90, "")), leaf(90, "")), leaf(90, "x"))
	builds(t, "\x7F\x21\x03\xDF\x01\x00\xBF\x81\x01\x02\x5A\x00", api.OK, kid(0x7F21, leaf(0xDF01, "")), kid(0xBF8101, leaf(90, "")))
}

// TestBuildOfEachNumber: with a Value, with Kids, with both, with neither.
func TestBuildOfEachNumber(t *testing.T) {
	check := func(tag int) {
		t.Helper()
		for _, n := range []api.Node{leaf(tag, ""), leaf(tag, "x"), kid(tag, leaf(90, "")), {Tag: tag, Value: "x", Kids: []api.Node{leaf(90, "")}}} {
			we, want := api.ErrTag, ""
			if fine := isTag(tag) && (n.Value == "" || !isMarked(tag)) && (len(n.Kids) == 0 || isMarked(tag)); fine {
				inner := n.Value + strings.Repeat("\x5A\x00", len(n.Kids))
				we, want = api.OK, tags().texts[tag]+lengthTexts()[len(inner)]+inner
			}
			builds(t, want, we, n)
		}
	}
	for n := -300; n < 1<<17; n++ {
		check(n)
	}
	for upper := range 1 << 16 {
		for _, third := range []int{0, 127, 128, 255} {
			check(upper<<8 | third)
		}
	}
	for _, n := range noTags {
		check(n)
	}
	for n := range tags().texts {
		builds(t, "", api.ErrTag, leaf(-n, ""))
		for _, far := range []int{1 << 24, 1 << 31, 1 << 32, 1 << 62, math.MinInt} {
			builds(t, "", api.ErrTag, leaf(n+far, ""))
		}
	}
}

func TestBuildOfEachTag(t *testing.T) {
	for tag, text := range tags().texts {
		if isMarked(tag) {
			builds(t, text+"\x02\x5A\x00", api.OK, kid(tag, leaf(90, "")))
			builds(t, "", api.ErrTag, leaf(tag, "x"))
		} else {
			builds(t, text+"\x02\x5A\x00", api.OK, leaf(tag, "\x5A\x00"))
			builds(t, "", api.ErrTag, kid(tag, leaf(90, "")))
		}
	}
}

func TestBuildOfEachLength(t *testing.T) {
	value := strings.Repeat("v", 10010)
	for n := range 10010 {
		one, two := leaf(90, value[:n]), leaf(40706, value[:n/2])
		if n < 300 || n > 9900 || n%7 == 0 {
			checkBuild(t, []api.Node{one})
			checkBuild(t, []api.Node{kid(112, one)})
			checkBuild(t, []api.Node{kid(112, two), kid(224, two)})
		}
	}
}

func TestBuildOfLongNodes(t *testing.T) {
	value := strings.Repeat("v", 1<<20)
	builds(t, "\x5A\x82\x27\x0B"+value[:9995], api.OK, leaf(90, value[:9995]))
	builds(t, "", api.ErrLength, leaf(90, value[:9996]))
	builds(t, "", api.ErrLength, leaf(90, value[:9999]))
	builds(t, "", api.ErrLength, leaf(90, value[:10000]))
	builds(t, "", api.ErrLength, leaf(90, value[:1<<16])) // two bytes would tell 0
	builds(t, "", api.ErrLength, leaf(90, value))
	builds(t, "\x70\x82\x27\x0B\x5A\x82\x27\x07"+value[:9991], api.OK, kid(112, leaf(90, value[:9991])))
	builds(t, "", api.ErrLength, kid(112, leaf(90, value[:9992])))
	many := slices.Repeat([]api.Node{leaf(90, value[:17])}, 500) // 9500 bytes
	for n := 480; n < 540; n++ {
		checkBuild(t, append(slices.Clone(many[:499]), leaf(90, value[:n])))
		checkBuild(t, []api.Node{kid(112, append(slices.Clone(many[:498]), leaf(90, value[:n]))...)})
	}
	builds(t, "", api.ErrLength, slices.Repeat([]api.Node{leaf(90, value[:100])}, 100)...)
}

// chain is one node in another, so deep.
func chain(deep int, inner ...api.Node) []api.Node {
	for range deep - 1 {
		inner = []api.Node{{Tag: 112, Kids: inner}}
	}
	return inner
}

func TestBuildOfDeepNodes(t *testing.T) {
	builds(t, wrap("\x5A\x00", 7), api.OK, chain(8, leaf(90, ""))...)
	builds(t, wrap("", 8), api.OK, chain(8, kid(112))...)
	for deep := 9; deep < 13; deep++ {
		for _, n := range []api.Node{leaf(90, ""), leaf(0, ""), kid(112), leaf(112, "x"), leaf(90, strings.Repeat("v", 10000))} {
			builds(t, "", api.ErrDeep, chain(deep, n)...)
			builds(t, "", api.ErrDeep, append(chain(8, leaf(90, "")), chain(deep, n)...)...)
		}
	}
	builds(t, "", api.ErrTag, chain(8, leaf(0, ""))...)
	builds(t, "", api.ErrTag, chain(8, leaf(112, "x"))...)
	builds(t, "", api.ErrTag, chain(8, kid(90, leaf(90, "")))...) // it is told ahead of its Kid, the ninth
	builds(t, wrap("\x5A\x00", 7)+"\x5A\x00"+wrap("\x5A\x00", 7), api.OK, append(append(chain(8, leaf(90, "")), leaf(90, "")), chain(8, leaf(90, ""))...)...)
}

func TestBuildOfManyNodes(t *testing.T) {
	flat := slices.Repeat([]api.Node{leaf(90, "")}, 600)
	text := strings.Repeat("\x5A\x00", 500)
	builds(t, text, api.OK, flat[:500]...)
	builds(t, wrap(text[2:], 1), api.OK, kid(112, flat[:499]...))
	builds(t, "", api.ErrMany, flat[:501]...)
	builds(t, "", api.ErrMany, flat...)
	builds(t, "", api.ErrMany, kid(112, flat[:500]...))
	builds(t, "", api.ErrMany, append(slices.Clone(flat[:499]), kid(112, leaf(90, "")))...)
	builds(t, "", api.ErrMany, append(slices.Clone(flat[:500]), leaf(0, ""))...)
	builds(t, "", api.ErrTag, append(slices.Clone(flat[:499]), leaf(0, ""), leaf(90, ""))...)
	builds(t, "", api.ErrMany, append(slices.Clone(flat[:492]), chain(9, leaf(90, ""))...)...)
	builds(t, "", api.ErrDeep, append(slices.Clone(flat[:491]), chain(9, leaf(90, ""))...)...)
	builds(t, "", api.ErrMany, slices.Repeat([]api.Node{leaf(90, strings.Repeat("v", 1000))}, 501)...)
	builds(t, "", api.ErrTag, make([]api.Node, 501)...)
}

// TestBuildTellsTheFirst: of two faults that which stands first, in the order of nodes; too many bytes are the last.
func TestBuildTellsTheFirst(t *testing.T) {
	deep := chain(9, leaf(90, ""))[0]
	long := leaf(90, strings.Repeat("v", 10000))
	parts := []api.Node{leaf(90, ""), kid(112), leaf(0, ""), leaf(112, "x"), kid(90, deep), kid(112, leaf(0, ""), deep), deep, long, kid(112, long), kid(112, long, leaf(31, "")), {Tag: 31, Kids: []api.Node{deep}}}
	for _, a := range parts {
		for _, b := range parts {
			checkBuild(t, []api.Node{a, b})
			checkBuild(t, []api.Node{kid(112, a), b})
			checkBuild(t, []api.Node{kid(112, a, b)})
			checkBuild(t, []api.Node{kid(112, kid(224, a), b), a})
			checkBuild(t, append(slices.Repeat([]api.Node{leaf(90, "")}, 499), a, b))
			checkBuild(t, append(slices.Repeat([]api.Node{leaf(90, "")}, 491), a, b))
		}
	}
}

func TestBuildOfRandomNodes(t *testing.T) {
	r := rand.New(rand.NewSource(902))
	for range 30000 {
		checkBuild(t, rightNodes(r, 1))
		checkBuild(t, anyNodes(r, 1))
	}
}

// TestBuildEnds: lists that stand in many places are more nodes than anyone could count.
func TestBuildEnds(t *testing.T) {
	l := slices.Repeat([]api.Node{leaf(90, "")}, 300)
	for range 7 {
		l = slices.Repeat([]api.Node{kid(112, l...)}, 300)
	}
	builds(t, "", api.ErrMany, l...)
	l = slices.Repeat([]api.Node{kid(112)}, 2)
	l[1].Kids, l[0].Kids = l, l
	builds(t, "", api.ErrDeep, l...)
}
