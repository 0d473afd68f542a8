package tlv_test

import (
	"math/rand"
	"strings"
	"testing"

	"turnstile/api"
	"turnstile/tlv"
)

// checkParse holds Parse against the second reading.
func checkParse(t *testing.T, b string) {
	t.Helper()
	l, e, at := tlv.Parse(b)
	want, we, wat := wantParse(b)
	if !same(l, want) || e != we || at != wat {
		t.Errorf("9.1: Parse(%.60x, %d bytes) = %.200v, %d at %d, must be %.200v, %d at %d", b, len(b), l, e, at, want, we, wat)
	}
}

// refuses looks whether Parse answers an error, its place, and nothing else.
func refuses(t *testing.T, b string, we api.Errno, wat int) {
	t.Helper()
	if l, e, at := tlv.Parse(b); len(l) != 0 || e != we || at != wat {
		t.Errorf("9.1: Parse(%.60x, %d bytes) = %.200v, %d at %d, must be %d at %d", b, len(b), l, e, at, we, wat)
	}
}

// reads looks whether Parse answers nodes.
func reads(t *testing.T, b string, want ...api.Node) {
	t.Helper()
	if l, e, at := tlv.Parse(b); !same(l, want) || e != api.OK || at != 0 {
		t.Errorf("9.1: Parse(%.60x, %d bytes) = %.200v, %d at %d, must be %.200v", b, len(b), l, e, at, want)
	}
}

func kid(tag int, kids ...api.Node) api.Node { return api.Node{Tag: tag, Kids: kids} }

func leaf(tag int, value string) api.Node { return api.Node{Tag: tag, Value: value} }

func TestParseOfExamples(t *testing.T) {
	reads(t, "")
	reads(t, "\x9F\x02\x06\x00\x00\x00\x00\x12\x34", leaf(40706, "\x00\x00\x00\x00\x12\x34"))
	reads(t, "\x70\x05\x5A\x03\x41\x11\x11", kid(112, leaf(90, "\x41\x11\x11")))
	refuses(t, "\x9F\x80\x01", api.ErrTag, 1)
	refuses(t, "\x5A\x81\x05abcde", api.ErrLength, 1)
	refuses(t, "\x5A\x05A", api.ErrShort, 3)
	refuses(t, "\x70\x03\x5A\x02A", api.ErrShort, 5)
	refuses(t, "\x00", api.ErrTag, 0)
}

func TestParseOfOrdinary(t *testing.T) {
	reads(t, "\x70\x00", kid(112))
	reads(t, "\x5A\x00", leaf(90, ""))
	reads(t, "\x5A\x01\x00\x5A\x01\xFF", leaf(90, "\x00"), leaf(90, "\xFF"))
	reads(t, "\x70\x04\x70\x02\x5A\x00\x5A\x00", kid(112, kid(112, leaf(90, ""))), leaf(90, ""))
	reads(t, "\x70\x04\x70\x00\x5A\x00", kid(112, kid(112), leaf(90, "")))
	reads(t, "\x7F\x21\x03\xDF\x01\x00\xBF\x81\x01\x02\x5A\x00", kid(0x7F21, leaf(0xDF01, "")), kid(0xBF8101, leaf(90, "")))
	reads(t, "\x20\x02\x40\x00", kid(32, leaf(64, "")))
}

// TestParseOfShortBytes: all of one byte and of two, all of some alphabets.
func TestParseOfShortBytes(t *testing.T) {
	last := "\x00\x01\x02\x5A\x70\x7F\x80\x81\x82\x83\xFF"
	for a := range 256 {
		checkParse(t, string([]byte{byte(a)}))
		for b := range 256 {
			two := string([]byte{byte(a), byte(b)})
			checkParse(t, two)
			for i := range len(last) {
				checkParse(t, two+last[i:i+1])
			}
		}
	}
	each(t, "\x00\x01\x02\x1F\x3F\x5A\x70\x7F\x80\x81\x82\x83\xFF", 4)
	each(t, "\x00\x01\x02\x04\x3F\x5A\x70\x80\x81", 5)
	each(t, "\x00\x01\x02\x04\x5A\x70\x81", 6)
	each(t, "\x00\x01\x03\x70", 8)
}

// each checks all texts of so many bytes of an alphabet.
func each(t *testing.T, alphabet string, size int) {
	t.Helper()
	var put func(text string)
	put = func(text string) {
		if len(text) == size {
			checkParse(t, text)
			return
		}
		for i := range len(alphabet) {
			put(text + alphabet[i:i+1])
		}
	}
	put("")
}

// TestParseOfEachTag: of a marked one the content is nodes, of any other it is the Value.
func TestParseOfEachTag(t *testing.T) {
	for text, tag := range tags().numbers {
		if isMarked(tag) {
			reads(t, text+"\x02\x5A\x00", kid(tag, leaf(90, "")))
			refuses(t, text+"\x01\x5A", api.ErrShort, len(text)+2)
		} else {
			reads(t, text+"\x02\x5A\x00", leaf(tag, "\x5A\x00"))
			reads(t, text+"\x01\x5A", leaf(tag, "\x5A"))
		}
	}
}

func TestParseOfWrongTags(t *testing.T) {
	for first := range 256 {
		one := string([]byte{byte(first)})
		for second := range 256 {
			two := one + string([]byte{byte(second)})
			for _, third := range []byte{0, 1, 127, 128, 255} {
				checkParse(t, two+string([]byte{third})+"\x00")
				checkParse(t, "\x5A\x00\x70\x04"+two+string([]byte{third})+"\x00")
			}
		}
	}
	refuses(t, "\x5A\x00\x00\x00", api.ErrTag, 2)
	refuses(t, "\x1F\x80", api.ErrTag, 1)
	refuses(t, "\x1F\x81\x80", api.ErrTag, 2)
	refuses(t, "\x1F\xFF\xFF\x7F\x00", api.ErrTag, 2)
	refuses(t, "\x70\x02\x1F\x81\x01\x00", api.ErrShort, 4) // the third byte lies behind the content
	refuses(t, "\x70\x01\x1F\x01\x00", api.ErrShort, 3)
}

// TestParseOfEachLength: each in its one form; one byte more is read as what it is, one less is short.
func TestParseOfEachLength(t *testing.T) {
	value := strings.Repeat("v", most)
	for n := 0; n+1+len(lengthTexts()[n]) <= most; n++ {
		b := "\x5A" + lengthTexts()[n] + value[:n]
		reads(t, b, leaf(90, value[:n]))
		if n > 0 {
			refuses(t, b[:len(b)-1], api.ErrShort, len(b)-1)
		}
		if len(b) < most {
			refuses(t, b+"\x00", api.ErrTag, len(b))
		}
	}
}

func TestParseOfWrongLengths(t *testing.T) {
	value := strings.Repeat("v", 300)
	for n := range 1 << 16 {
		checkParse(t, "\x5A\x82"+string([]byte{byte(n >> 8), byte(n)})+value)
	}
	for n := range 256 {
		checkParse(t, "\x5A\x81"+string([]byte{byte(n)})+value)
		checkParse(t, "\x5A"+string([]byte{byte(n)})+value)
		checkParse(t, "\x70\x02\x5A"+string([]byte{byte(n)})+value)
	}
	for _, b := range []string{"\x80", "\x83", "\x84\x00\x00\x00\x01", "\xFF", "\x81\x00", "\x81\x7F", "\x82\x00\x00", "\x82\x00\x7F", "\x82\x00\x80", "\x82\x00\xFF", "\x82\x27\x10", "\x82\xFF\xFF"} {
		refuses(t, "\x5A"+b, api.ErrLength, 1)
		refuses(t, "\x9F\x02"+b+value, api.ErrLength, 2)
		refuses(t, "\x70\x81\xC8\xDF\x81\x01"+b+value, api.ErrLength, 6)
	}
	for _, b := range []string{"", "\x81", "\x82", "\x82\x00", "\x82\xFF", "\x81\x80", "\x82\x01\x00", "\x82\x27\x0F"} {
		refuses(t, "\x5A"+b, api.ErrShort, 1+len(b))
		refuses(t, "\x70"+string([]byte{byte(1 + len(b))})+"\x5A"+b+value, api.ErrShort, 3+len(b))
	}
}

// TestParseOfCutBytes: wherever they end, and whatever one byte of them is.
func TestParseOfCutBytes(t *testing.T) {
	whole := "\x70\x0F\x5A\x03abc\x7F\x21\x07\x9F\x02\x01x\xBF\x01\x00\xDF\x81\x01\x00\x5A\x81\x80" + strings.Repeat("v", 128) + "\xE0\x82\x01\x04\x5A\x82\x01\x00" + strings.Repeat("w", 256)
	if _, e, at := wantParse(whole); e != api.OK {
		t.Fatalf("the test's own bytes: %d at %d", e, at)
	}
	for i := range len(whole) + 1 {
		checkParse(t, whole[:i])
		checkParse(t, whole[i:])
	}
	for i := range len(whole) {
		if i > 40 && i < 140 || i > 170 {
			continue // within a Value
		}
		for c := range 256 {
			checkParse(t, whole[:i]+string([]byte{byte(c)})+whole[i+1:])
			checkParse(t, whole[:i]+string([]byte{byte(c)})+whole[i:])
		}
		checkParse(t, whole[:i]+whole[i+1:])
	}
}

// TestParseEndsWithTheContent: what stands behind it is another's.
func TestParseEndsWithTheContent(t *testing.T) {
	rest := "\x5A\x00\x5A\x00\x5A\x00"
	refuses(t, "\x70\x01\x5A"+rest, api.ErrShort, 3)
	refuses(t, "\x70\x02\x5A\x01"+rest, api.ErrShort, 4)
	refuses(t, "\x70\x03\x5A\x02A"+rest, api.ErrShort, 5)
	refuses(t, "\x70\x02\x5A\x81"+rest, api.ErrShort, 4)
	refuses(t, "\x70\x03\x5A\x82\x01"+rest, api.ErrShort, 5)
	refuses(t, "\x70\x04\x70\x03\x5A\x00"+rest, api.ErrShort, 6)
	refuses(t, "\x70\x06\x70\x03\x5A\x01A\x5A"+rest, api.ErrShort, 8)
	refuses(t, "\x70\x04\x70\x01\x9F\x02"+rest, api.ErrShort, 5)
	reads(t, "\x70\x06\x70\x02\x5A\x00\x5A\x00"+rest[:2], kid(112, kid(112, leaf(90, "")), leaf(90, "")), leaf(90, ""))
}

// wrap puts bytes into a node with Kids, so often.
func wrap(b string, times int) string {
	for range times {
		b = "\x70" + lengthTexts()[len(b)] + b
	}
	return b
}

func TestParseOfDeepNodes(t *testing.T) {
	for times := range 12 {
		for _, inner := range []string{"", "\x5A\x00", "\x70\x00", "\x00", "\x5A", "\x5A\x80", "\x5A\x00\x70\x02\x5A\x00", "\x9F\x80"} {
			checkParse(t, wrap(inner, times))
			checkParse(t, wrap(inner, times)+"\x5A\x00")
			checkParse(t, "\x5A\x01x"+wrap(inner, times)+wrap(inner, times+1))
		}
	}
	if l, e, _ := tlv.Parse(wrap("\x5A\x00", 7)); len(l) != 1 || e != api.OK {
		t.Errorf("9.1: eight deep: %d", e)
	}
	for _, inner := range []string{"\x5A\x00", "\x00", "\x5A", "\x9F\x80"} {
		refuses(t, wrap(inner, 8), api.ErrDeep, 16)
		refuses(t, wrap(inner, 11), api.ErrDeep, 16)
	}
	if l, e, _ := tlv.Parse(wrap("", 8)); len(l) != 1 || e != api.OK {
		t.Errorf("9.1: eight deep, the last one without Kids: %d", e)
	}
	refuses(t, "\x5A\x00"+wrap("\x5A\x00", 7)+wrap("\x5A\x00", 8), api.ErrDeep, 2+16+16) // it is less deep again between them
}

func TestParseOfManyNodes(t *testing.T) {
	flat := strings.Repeat("\x5A\x00", 500)
	if l, e, _ := tlv.Parse(flat); len(l) != 500 || e != api.OK {
		t.Errorf("9.1: 500 nodes: %d, %d", len(l), e)
	}
	for _, more := range []string{"\x5A\x00", "\x00", "\x5A", "\x9F\x80", "\x5A\x80"} {
		refuses(t, flat+more, api.ErrMany, 1000)
	}
	refuses(t, flat[2:]+"\x70\x02\x5A\x00", api.ErrMany, 1000) // the 501st stands in the 500th
	refuses(t, wrap(flat, 1), api.ErrMany, 4+998)
	refuses(t, wrap(flat[:2*493]+wrap("\x5A\x00", 7), 1), api.ErrMany, 4+2*493+12)
	refuses(t, flat[:2*492]+wrap("\x5A\x00", 8), api.ErrMany, 2*492+16) // too deep, too: many is ahead of it
	refuses(t, flat[:2*491]+wrap("\x5A\x00", 8), api.ErrDeep, 2*491+16)
	if l, e, _ := tlv.Parse(wrap(flat[2:], 1)); len(l) != 1 || e != api.OK || len(l[0].Kids) != 499 {
		t.Errorf("9.1: one with 499 Kids: %d", e)
	}
	if l, e, _ := tlv.Parse(strings.Repeat("\x70\x02\x5A\x00", 250)); len(l) != 250 || e != api.OK {
		t.Errorf("9.1: 250 with a Kid each: %d", e)
	}
	refuses(t, strings.Repeat("\x70\x02\x5A\x00", 251), api.ErrMany, 1000)
}

func TestParseOfLongBytes(t *testing.T) {
	value := strings.Repeat("v", most)
	reads(t, "\x5A\x82\x27\x0B"+value[:9995], leaf(90, value[:9995]))
	reads(t, "\x70\x82\x27\x0B\x5A\x82\x27\x07"+value[:9991], kid(112, leaf(90, value[:9991])))
	refuses(t, "\x5A\x82\x27\x0C"+value[:9995], api.ErrShort, most)
	for _, b := range []string{"\x5A\x82\x27\x0C" + value[:9996], "\x00" + value, strings.Repeat("\x5A\x00", 5000), strings.Repeat("\x70", 20000), strings.Repeat("\x00", 1<<20)} {
		refuses(t, b, api.ErrLength, 0)
	}
	checkParse(t, strings.Repeat("\x00", most))
	checkParse(t, strings.Repeat("\x70", most))
	checkParse(t, strings.Repeat("\x5A\x00", most/2))
}

func TestParseOfRandomBytes(t *testing.T) {
	r := rand.New(rand.NewSource(901))
	right, nodes := 0, 0
	for range 30000 {
		b, e := wantBuild(rightNodes(r, 1))
		if e != api.OK {
			continue
		}
		right++
		nodes += len(b)
		checkParse(t, b)
		for range 4 {
			checkParse(t, spoilt(r, b))
		}
	}
	if right < 25000 || nodes < 250000 {
		t.Errorf("the test read %d texts of %d bytes only", right, nodes)
	}
	for range 100000 {
		checkParse(t, randomText(r, r.Intn(12)))
	}
}

// spoilt is bytes of which one is another one, is gone, or stands there besides; or that end early.
func spoilt(r *rand.Rand, b string) string {
	if b == "" {
		return randomText(r, 3)
	}
	at := r.Intn(len(b))
	if r.Intn(2) == 0 {
		at = min(at, r.Intn(8)) // the lists of long Values have most of their tags in front
	}
	c := oneOf(r, []string{randomText(r, 1), "\x00", "\x01", "\x5A", "\x70", "\x80", "\x81", "\x82", string([]byte{b[at] + 1}), string([]byte{b[at] - 1})})
	switch r.Intn(4) {
	case 0:
		return b[:at] + c + b[at+1:]
	case 1:
		return b[:at] + b[at+1:]
	case 2:
		return b[:at] + c + b[at:]
	}
	return b[:at]
}
