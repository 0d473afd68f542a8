package seal_test

import (
	"math/rand"
	"strings"
	"testing"

	"turnstile/api"
	"turnstile/seal"
)

// What follows (4.9).

// TestRightOfTheTagAlone: of no other text of 8 bytes, and of none that is shorter or longer.
func TestRightOfTheTagAlone(t *testing.T) {
	r := rand.New(rand.NewSource(49))
	for _, way := range ways() {
		s := newSlots(t, 1)
		put(t, s, 0, way[0], way[1], pair[:keySize(way[0])], "")
		for n := range 20 {
			text := randomText(r, n)
			tag, _ := s.Tag(0, text)
			if ok, e := s.Right(0, text, tag); !ok || e != api.OK {
				t.Errorf("4.6, 4.9: Right(%x, %x) = %v, %d", text, tag, ok, e)
			}
			wrong := []string{"", tag[:7], tag[1:], tag + "\x00", tag + tag, noughts, "no tag..", randomText(r, 8)}
			for bit := range 64 {
				b := []byte(tag)
				b[bit/8] ^= 1 << (bit % 8)
				wrong = append(wrong, string(b))
			}
			for _, w := range wrong {
				if ok, e := s.Right(0, text, w); ok || e != api.OK {
					t.Errorf("4.6, 4.9: Right(%x, %x) = %v, %d, the tag is %x", text, w, ok, e, tag)
				}
			}
		}
	}
}

// TestNoughtsAtTheEnd: method 2 tells them apart, method 1 does not, unless they make one block more.
func TestNoughtsAtTheEnd(t *testing.T) {
	for n := range 26 {
		for more := 1; more < 10; more++ {
			a := strings.Repeat("a", n)
			b := a + strings.Repeat("\x00", more)
			blocks := func(s string) int { return max(len(s)+7, 8) / 8 }
			one1, _ := seal.Pad(1, a)
			two1, _ := seal.Pad(1, b)
			if alike := blocks(a) == blocks(b); (one1 == two1) != alike {
				t.Errorf("4.9: Pad(1) of %d bytes, and with %d noughts behind: %x, %x", n, more, one1, two1)
			}
			one2, _ := seal.Pad(2, a)
			two2, _ := seal.Pad(2, b)
			if one2 == two2 {
				t.Errorf("4.9: Pad(2) of %d bytes, and with %d noughts behind: %x", n, more, one2)
			}
			for _, alg := range []int{1, 3} {
				key := pair[:keySize(alg)]
				if (tagOf(t, alg, 1, key, a) == tagOf(t, alg, 1, key, b)) != (one1 == two1) {
					t.Errorf("4.9: tags by method 1 of %d bytes, and with %d noughts behind", n, more)
				}
				if tagOf(t, alg, 2, key, a) == tagOf(t, alg, 2, key, b) {
					t.Errorf("4.9: tags by method 2 of %d bytes, and with %d noughts behind", n, more)
				}
			}
		}
	}
}

// TestFilledUpTextsComeBack: what method 2 filled up tells the text, also where the text itself ends with marks and noughts.
func TestFilledUpTextsComeBack(t *testing.T) {
	seen := map[string]string{}
	texts := []string{""}
	for from := 0; from < len(texts); from++ {
		text := texts[from]
		s, e := seal.Pad(2, text)
		if other, ok := seen[s]; ok || e != api.OK {
			t.Fatalf("4.9: Pad(2, %x) = %x, %d, as of %x", text, s, e, other)
		}
		seen[s] = text
		if len(text) < 9 {
			for _, c := range []string{"\x00", "\x80"} {
				texts = append(texts, text+c)
			}
		}
		if len(text) < 5 {
			texts = append(texts, text+"a", text+"\x01")
		}
	}
}

func TestHalvesThatAreAlike(t *testing.T) {
	r := rand.New(rand.NewSource(50))
	for n := range 30 {
		half, text := randomText(r, 8), randomText(r, n)
		for _, method := range []int{1, 2} {
			if a, b := tagOf(t, 1, method, half, text), tagOf(t, 3, method, half+half, text); a != b {
				t.Errorf("4.9: tags under %x, and under it twice: %x, %x", half, a, b)
			}
		}
	}
}

// TestLowestBitsOfKeys: each byte's lowest bit is turned, and then those of all.
func TestLowestBitsOfKeys(t *testing.T) {
	for _, way := range ways() {
		key := []byte(pair[:keySize(way[0])])
		want := tagOf(t, way[0], way[1], string(key), "some text")
		for i := range key {
			key[i] ^= 1
			if got := tagOf(t, way[0], way[1], string(key), "some text"); got != want {
				t.Errorf("4.9: Tag under %x = %x, want %x", key, got, want)
			}
			key[i] ^= 2
			if got := tagOf(t, way[0], way[1], string(key), "some text"); got == want {
				t.Errorf("4.2: Tag under %x = %x, as under another key", key, got)
			}
			key[i] ^= 2
		}
	}
}

// TestSlotsTagAsTag: whatever the slot has.
func TestSlotsTagAsTag(t *testing.T) {
	r := rand.New(rand.NewSource(51))
	s := newSlots(t, 4)
	for n := range 100 {
		slot := n % 4
		alg, method := ways()[r.Intn(4)][0], ways()[r.Intn(4)][1]
		key, text := randomText(r, keySize(alg)), randomText(r, n)
		put(t, s, slot, alg, method, key, "")
		want := tagOf(t, alg, method, key, text)
		if got, e := s.Tag(slot, text); got != want || e != api.OK {
			t.Errorf("4.6: Tag(%d, %x) = %x, %d, want %x", slot, text, got, e, want)
		}
	}
}
