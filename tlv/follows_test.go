package tlv_test

import (
	"math/rand"
	"slices"
	"strings"
	"testing"

	"turnstile/api"
	"turnstile/tlv"
)

// What follows (9.9), asked of the package alone.

func TestNodesComeBack(t *testing.T) {
	r := rand.New(rand.NewSource(907))
	taken := 0
	for range 50000 {
		l := rightNodes(r, 1)
		b, e := tlv.Build(l)
		if e != api.OK {
			continue
		}
		taken += len(l)
		if back, e, at := tlv.Parse(b); !same(back, l) || e != api.OK || at != 0 {
			t.Errorf("9.9: Parse of Build(%.200v) = %.200v, %d, %d", l, back, e, at)
		}
	}
	if taken < 50000 {
		t.Errorf("the test took %d nodes only", taken)
	}
}

// TestBytesComeBack: whatever Parse takes, of bytes that are nearly right.
func TestBytesComeBack(t *testing.T) {
	r := rand.New(rand.NewSource(908))
	taken := 0
	check := func(b string) {
		l, e, _ := tlv.Parse(b)
		if e != api.OK {
			return
		}
		taken++
		if back, e := tlv.Build(l); back != b || e != api.OK {
			t.Errorf("9.9: Build of Parse(%.200x) = %.200x, %d", b, back, e)
		}
	}
	for range 30000 {
		b, _ := tlv.Build(rightNodes(r, 1))
		check(b)
		for range 5 {
			check(spoilt(r, b))
		}
		check(randomText(r, 2+r.Intn(3)))
	}
	if taken < 40000 {
		t.Errorf("the test took %d texts only", taken)
	}
}

// TestNoBytesTwice: of all short bytes no two are the same nodes.
func TestNoBytesTwice(t *testing.T) {
	alphabet := "\x00\x01\x02\x03\x04\x5A\x70\x80\x81\x82"
	seen := map[string]string{}
	texts := []string{""}
	for range 5 {
		var longer []string
		for _, text := range texts {
			for i := range len(alphabet) {
				longer = append(longer, text+alphabet[i:i+1])
			}
		}
		texts = longer
		for _, b := range texts {
			l, e, _ := tlv.Parse(b)
			if e != api.OK {
				continue
			}
			print := tlv.Print(l)
			if seen[print] != "" {
				t.Errorf("9.9: %x and %x are the same nodes: %q", seen[print], b, print)
			}
			seen[print] = b
		}
	}
	if len(seen) < 100 {
		t.Errorf("the test saw %d lists only", len(seen))
	}
}

func TestSubsComeBack(t *testing.T) {
	r := rand.New(rand.NewSource(909))
	built, read := 0, 0
	for range 50000 {
		var l []api.Node
		for range r.Intn(5) {
			l = append(l, leaf(r.Intn(102)-1, strings.ToValidUTF8(randomText(r, r.Intn(3)), "~")))
		}
		b, e := tlv.BuildSub(l)
		if e != api.OK {
			continue
		}
		built++
		if back, e, at := tlv.ParseSub(b); !same(back, l) || e != api.OK || at != 0 {
			t.Errorf("9.9: ParseSub of BuildSub(%v) = %v, %d, %d", l, back, e, at)
		}
		for range 3 {
			b := spoilt(r, b)
			l, e, _ := tlv.ParseSub(b)
			if e != api.OK {
				continue
			}
			read++
			if back, e := tlv.BuildSub(l); back != b || e != api.OK {
				t.Errorf("9.9: BuildSub of ParseSub(%q) = %q, %d", b, back, e)
			}
		}
	}
	if built < 10000 || read < 5000 {
		t.Errorf("the test built %d texts, read %d only", built, read)
	}
}

func TestAsManyNodesAsLines(t *testing.T) {
	r := rand.New(rand.NewSource(910))
	for range 20000 {
		l := anyNodes(r, 1)
		nodes := 0
		for range tlv.All(l) {
			nodes++
		}
		if lines := strings.Count(tlv.Print(l), "\n"); lines != nodes {
			t.Errorf("9.9: %d nodes, %d lines: %v", nodes, lines, l)
		}
	}
}

func TestSetIsFound(t *testing.T) {
	r := rand.New(rand.NewSource(911))
	taken := 0
	for range 50000 {
		l := anyNodes(r, 1)
		path, value := randomPath(r, l), randomText(r, r.Intn(4))
		set, e := tlv.Set(l, value, path...)
		if e != api.OK {
			continue
		}
		taken++
		if n, ok := tlv.Find(set, path...); !ok || n.Value != value {
			t.Errorf("9.9: Find behind Set(%v, %q, %v) = %v, %v", l, value, path, n, ok)
		}
		if again, e := tlv.Set(set, value, path...); e != api.OK || !same(again, set) {
			t.Errorf("9.9: Set once more: %v, %d", again, e)
		}
		if before, ok := tlv.Find(l, path...); ok {
			if back, e := tlv.Set(set, before.Value, path...); e != api.OK || !same(back, l) {
				t.Errorf("9.9: Set back: %v, %d", back, e)
			}
		}
	}
	if taken < 10000 {
		t.Errorf("the test set %d values only", taken)
	}
}

// TestBuildTakesWhatParseGives, at the limits of both.
func TestBuildTakesWhatParseGives(t *testing.T) {
	for _, l := range [][]api.Node{
		slices.Repeat([]api.Node{leaf(90, strings.Repeat("v", 17))}, 500),
		slices.Repeat([]api.Node{kid(112, leaf(90, strings.Repeat("v", 35)))}, 250),
		chain(8, slices.Repeat([]api.Node{leaf(0xDF8101, "x")}, 493)...),
		{leaf(90, strings.Repeat("v", 9995))},
	} {
		b, e := tlv.Build(l)
		if e != api.OK {
			t.Fatalf("9.2: Build of the most there may be: %d", e)
		}
		if back, e, _ := tlv.Parse(b); e != api.OK || !same(back, l) {
			t.Errorf("9.9: Parse of the most there may be: %d", e)
		}
	}
}
