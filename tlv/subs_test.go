package tlv_test

import (
	"fmt"
	"math"
	"math/rand"
	"slices"
	"strings"
	"testing"

	"turnstile/api"
	"turnstile/tlv"
)

func checkParseSub(t *testing.T, b string) {
	t.Helper()
	l, e, at := tlv.ParseSub(b)
	want, we, wat := wantParseSub(b)
	if !same(l, want) || e != we || at != wat {
		t.Errorf("9.3: ParseSub(%.60q, %d bytes) = %.200v, %d at %d, must be %.200v, %d at %d", b, len(b), l, e, at, want, we, wat)
	}
}

func refusesSub(t *testing.T, b string, we api.Errno, wat int) {
	t.Helper()
	if l, e, at := tlv.ParseSub(b); len(l) != 0 || e != we || at != wat {
		t.Errorf("9.3: ParseSub(%.60q, %d bytes) = %.200v, %d at %d, must be %d at %d", b, len(b), l, e, at, we, wat)
	}
}

func readsSub(t *testing.T, b string, want ...api.Node) {
	t.Helper()
	if l, e, at := tlv.ParseSub(b); !same(l, want) || e != api.OK || at != 0 {
		t.Errorf("9.3: ParseSub(%.60q, %d bytes) = %.200v, %d at %d, must be %.200v", b, len(b), l, e, at, want)
	}
}

func checkBuildSub(t *testing.T, l []api.Node) {
	t.Helper()
	s, e := tlv.BuildSub(l)
	if want, we := wantBuildSub(l); s != want || e != we {
		t.Errorf("9.4: BuildSub(%.200v) = %.200q, %d, must be %.200q, %d", l, s, e, want, we)
	}
}

func buildsSub(t *testing.T, want string, we api.Errno, l ...api.Node) {
	t.Helper()
	if s, e := tlv.BuildSub(l); s != want || e != we {
		t.Errorf("9.4: BuildSub(%.200v) = %.200q, %d, must be %.200q, %d", l, s, e, want, we)
	}
}

func TestSubsOfExamples(t *testing.T) {
	readsSub(t, "")
	readsSub(t, "0102AB0300", leaf(1, "AB"), leaf(3, ""))
	refusesSub(t, "01", api.ErrShort, 2)
	refusesSub(t, "0x", api.ErrTag, 1)
	buildsSub(t, "0102AB0300", api.OK, leaf(1, "AB"), leaf(3, ""))
	buildsSub(t, "", api.OK)
	buildsSub(t, "0700", api.OK, api.Node{Tag: 7, Kids: []api.Node{}})
}

// TestEachSub: each tag with each length; a marked number is a tag as any other is.
func TestEachSub(t *testing.T) {
	value := strings.Repeat(" ~09azAZ", 20)
	for tag := range 100 {
		for size := range 100 {
			text := fmt.Sprintf("%02d%02d%s", tag, size, value[:size])
			readsSub(t, text, leaf(tag, value[:size]))
			readsSub(t, text+"0000", leaf(tag, value[:size]), leaf(0, ""))
			buildsSub(t, text, api.OK, leaf(tag, value[:size]))
			if size > 0 {
				refusesSub(t, text[:len(text)-1], api.ErrShort, len(text)-1)
			}
		}
	}
}

// TestParseSubOfEachByte: wherever it stands, and wherever the text ends.
func TestParseSubOfEachByte(t *testing.T) {
	whole := "0102AB03009903~ 10000"
	for i := range len(whole) {
		checkParseSub(t, whole[:i])
		for c := range 256 {
			checkParseSub(t, whole[:i]+string([]byte{byte(c)})+whole[i+1:])
			checkParseSub(t, whole[:i]+string([]byte{byte(c)}))
			checkParseSub(t, whole[:i]+string([]byte{byte(c)})+whole[i:])
		}
	}
	for a := range 256 {
		for b := range 256 {
			two := string([]byte{byte(a), byte(b)})
			for _, text := range []string{two, two + "00", "00" + two, "0002" + two, "0003" + two, "0001" + two, "0002x" + two} {
				checkParseSub(t, text)
			}
		}
	}
}

func TestParseSubTellsTheFirst(t *testing.T) {
	refusesSub(t, "0", api.ErrShort, 1)
	refusesSub(t, "010", api.ErrShort, 3)
	refusesSub(t, "x", api.ErrTag, 0)
	refusesSub(t, "x1", api.ErrTag, 0)
	refusesSub(t, "xx", api.ErrTag, 0)
	refusesSub(t, "01x", api.ErrLength, 2)
	refusesSub(t, "01x0", api.ErrLength, 2)
	refusesSub(t, "010x", api.ErrLength, 3)
	refusesSub(t, "01 1", api.ErrLength, 2)
	refusesSub(t, "01-1", api.ErrLength, 2)
	refusesSub(t, "0103a\n", api.ErrShort, 6) // it is short ahead of its bytes being looked at
	refusesSub(t, "0103\x1F\x7Fa", api.ErrChar, 4)
	refusesSub(t, "0103 \x7F\x80", api.ErrChar, 5)
	refusesSub(t, "0103 ~\x80", api.ErrChar, 6)
	refusesSub(t, "0102\xC3\xA9", api.ErrChar, 4)
	refusesSub(t, "0100010\x00", api.ErrLength, 7)
	refusesSub(t, "0101\x000x", api.ErrChar, 4)
	refusesSub(t, "0101a0", api.ErrShort, 6)
}

func TestManySubs(t *testing.T) {
	text := strings.Repeat("0700", 500)
	l := slices.Repeat([]api.Node{leaf(7, "")}, 600)
	readsSub(t, text, l[:500]...)
	buildsSub(t, text, api.OK, l[:500]...)
	for _, more := range []string{"0700", "0", "x", "0101\x00"} {
		refusesSub(t, text+more, api.ErrMany, 2000)
		refusesSub(t, "0"+text[1:]+more, api.ErrMany, 2000)
	}
	refusesSub(t, text+text, api.ErrMany, 2000)
	refusesSub(t, text[:1996]+"0", api.ErrShort, 1997)
	buildsSub(t, "", api.ErrMany, l[:501]...)
	buildsSub(t, "", api.ErrMany, l...)
	for _, n := range []api.Node{leaf(100, ""), kid(1, leaf(1, "")), leaf(1, strings.Repeat("v", 100)), leaf(1, "\x00")} {
		buildsSub(t, "", api.ErrMany, append(slices.Clone(l[:500]), n)...)
		checkBuildSub(t, append(slices.Clone(l[:499]), n, n))
		if _, e := tlv.BuildSub(append(slices.Clone(l[:499]), n, n)); e == api.ErrMany {
			t.Errorf("9.4: the 500th is %v, the 501st is told ahead of it", n)
		}
	}
}

func TestLongSubs(t *testing.T) {
	value := strings.Repeat("v", 1<<16)
	l := slices.Repeat([]api.Node{leaf(7, value[:99])}, 97) // 9991 bytes
	text := strings.Repeat("0799"+value[:99], 97)
	readsSub(t, text+"0704vvvv", append(slices.Clone(l), leaf(7, "vvvv"))...)
	buildsSub(t, text+"0704vvvv", api.OK, append(slices.Clone(l), leaf(7, "vvvv"))...)
	refusesSub(t, text+"0705vvvvv", api.ErrLength, 0)
	refusesSub(t, strings.Repeat("x", 10000), api.ErrLength, 0)
	refusesSub(t, strings.Repeat("x", 9999), api.ErrTag, 0)
	refusesSub(t, strings.Repeat("0", 1<<20), api.ErrLength, 0)
	buildsSub(t, "", api.ErrLength, append(slices.Clone(l), leaf(7, "vvvvv"))...)
	buildsSub(t, "", api.ErrLength, leaf(7, value[:100]))
	buildsSub(t, "", api.ErrLength, leaf(7, value))
	for n := range 103 {
		checkBuildSub(t, append(slices.Clone(l), leaf(7, value[:n])))
		checkBuildSub(t, append(slices.Clone(l[:96]), leaf(7, value[:n])))
	}
}

func TestBuildSubOfWrongOnes(t *testing.T) {
	for tag := -300; tag < 70000; tag++ {
		checkBuildSub(t, []api.Node{leaf(tag, "x")})
	}
	for _, tag := range []int{math.MinInt, math.MaxInt, 1<<32 + 1, 1<<31 + 7, -(1 << 32) + 7} {
		buildsSub(t, "", api.ErrTag, leaf(tag, ""))
	}
	for c := range 256 {
		for _, value := range []string{"%", "%a", "a%", "a%a"} {
			checkBuildSub(t, []api.Node{leaf(7, strings.ReplaceAll(value, "%", string([]byte{byte(c)})))})
		}
	}
}

// TestBuildSubTellsTheFirst: of two faults of one sub-element, and of two sub-elements.
func TestBuildSubTellsTheFirst(t *testing.T) {
	var parts []api.Node
	for _, tag := range []int{0, 99, -1, 100} {
		for _, value := range []string{"", "x", "\x00", strings.Repeat("v", 100), strings.Repeat("\x00", 100)} {
			parts = append(parts, leaf(tag, value), api.Node{Tag: tag, Value: value, Kids: []api.Node{leaf(1, "")}})
		}
	}
	l := slices.Repeat([]api.Node{leaf(7, strings.Repeat("v", 99))}, 98) // too many bytes
	for _, a := range parts {
		checkBuildSub(t, append(slices.Clone(l), a))
		for _, b := range parts {
			checkBuildSub(t, []api.Node{a, b})
		}
	}
}

func TestSubsOfRandomTexts(t *testing.T) {
	r := rand.New(rand.NewSource(903))
	for range 50000 {
		var l []api.Node
		for range r.Intn(6) {
			value := strings.Map(func(rune) rune { return ' ' + rune(r.Intn(95)) }, strings.Repeat("x", r.Intn(6)))
			l = append(l, leaf(r.Intn(100), value))
		}
		checkBuildSub(t, l)
		b, _ := wantBuildSub(l)
		checkParseSub(t, b)
		for range 3 {
			checkParseSub(t, spoilt(r, b))
		}
		checkBuildSub(t, anyNodes(r, 11))
	}
}
