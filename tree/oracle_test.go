package tree_test

import (
	"encoding/hex"
	"fmt"
	"slices"
	"strings"

	"turnstile/api"
	"turnstile/grammar"
	"turnstile/tlv"
)

// A plain second reading of the chapter is held against the package: bytes are looked at as sixteenths and as rows of 0 and 1, lengths are looked up among all that there are. What it has of other layers is grammar.Right, grammar.Fits, and tlv.

const sixteenths = "0123456789ABCDEF"

// signs are the bytes 32 to 126; signsInEBCDIC what stands for each.
var (
	signs         = " !\"#$%&'()*+,-./0123456789:;<=>?@ABCDEFGHIJKLMNOPQRSTUVWXYZ[\\]^_`abcdefghijklmnopqrstuvwxyz{|}~"
	signsInEBCDIC = unhex("405A7F7B5B6C507D4D5D5C4E6B604B61" + "F0F1F2F3F4F5F6F7F8F97A5E4C7E6E6F" + "7CC1C2C3C4C5C6C7C8C9D1D2D3D4D5D6" + "D7D8D9E2E3E4E5E6E7E8E9BAE0BBB06D" + "79818283848586878889919293949596" + "979899A2A3A4A5A6A7A8A9C04FD0A1")
)

func unhex(s string) string {
	b, err := hex.DecodeString(s)
	if err != nil {
		panic(err)
	}
	return string(b)
}

// swapped is a text with each byte that stands in from turned into that at the same place in to; the others become bytes 0.
func swapped(s, from, to string) string {
	b := []byte(s)
	for i, c := range b {
		b[i] = 0
		if at := strings.IndexByte(from, c); at >= 0 {
			b[i] = to[at]
		}
	}
	return string(b)
}

// packed is characters as bytes.
func packed(enc int, s string) string {
	halves := strings.ReplaceAll(s, "=", "D")
	switch {
	case enc == api.EBCDIC:
		return swapped(s, signs, signsInEBCDIC)
	case enc == api.BCD:
		return unhex(strings.Repeat("0", len(s)%2) + halves)
	case enc == api.BCDR:
		return unhex(halves + strings.Repeat("F", len(s)%2))
	}
	return s
}

func widthOf(enc, count int) int {
	if enc == api.BCD || enc == api.BCDR {
		return (count + 1) / 2
	}
	return count
}

// alphabet is what may stand at a place of a class that has characters.
func alphabet(class, place int) string {
	const digits, letters = "0123456789", "ABCDEFGHIJKLMNOPQRSTUVWXYZabcdefghijklmnopqrstuvwxyz"
	if class == api.ClassX && place == 0 {
		return "CD"
	}
	return map[int]string{1: digits, 2: letters + " ", 3: letters + digits + " ", 4: signs, 6: digits + "=", 7: digits}[class]
}

// wantText reads so many characters: them; or why not, and at which byte.
func wantText(class, enc, count int, b string) (string, api.Errno, int) {
	if enc == api.BCD || enc == api.BCDR {
		return wantHalves(class, enc, count, b)
	}
	if enc == api.EBCDIC {
		b = swapped(b, signsInEBCDIC, signs)
	}
	for i := range count {
		if strings.IndexByte(alphabet(class, i), b[i]) < 0 {
			return "", api.DefContent, i
		}
	}
	return b[:count], api.OK, 0
}

// wantHalves looks at sixteenths: a letter of the row says which are filling, and which are characters.
func wantHalves(class, enc, count int, b string) (string, api.Errno, int) {
	row, filling := strings.Repeat("c", count), "0"
	if count%2 == 1 && enc == api.BCD {
		row = "f" + row
	} else if count%2 == 1 {
		row, filling = row+"f", "F"
	}
	var s string
	for i := range len(row) / 2 {
		pad := false
		for k, half := range strings.Split(fmt.Sprintf("%02X", b[i]), "") {
			half = strings.ReplaceAll(half, "D", "=")
			switch {
			case row[2*i+k] == 'f':
				pad = half != filling
			case !strings.Contains(alphabet(class, len(s)), half):
				return "", api.DefContent, i
			default:
				s += half
			}
		}
		if pad {
			return "", api.DefPad, i
		}
	}
	return s, api.OK, 0
}

// lengthKind is how a length is written.
type lengthKind struct{ enc, digits int }

// lengths are all that there are of each kind, by their bytes.
var lengths = allLengths()

func allLengths() map[lengthKind]map[string]int {
	all := map[lengthKind]map[string]int{}
	for _, enc := range []int{api.ASCII, api.BCD, api.EBCDIC, api.BINARY} {
		most := 1
		for digits := 1; digits <= 4; digits++ {
			most *= 10
			kind := lengthKind{enc, digits}
			all[kind] = map[string]int{}
			for n := range most {
				all[kind][wantPrefix(enc, digits, n)] = n
			}
		}
	}
	return all
}

func wantPrefix(enc, digits, n int) string {
	switch {
	case digits == 0:
		return ""
	case enc == api.BINARY && digits <= 2:
		return string([]byte{byte(n)})
	case enc == api.BINARY:
		return string([]byte{byte(n / 256), byte(n % 256)})
	}
	return packed(enc, fmt.Sprintf("%0*d", digits, n))
}

func prefixWidth(enc, digits int) int { return len(wantPrefix(enc, digits, 0)) }

// told is what the second reading tells of bytes.
type told struct {
	m      api.Message
	spans  [][2]int
	defect api.Defect
}

func wrong(code api.Errno, field, at int) told {
	return told{defect: api.Defect{Code: code, Field: field, At: at}}
}

// wantRead is what is to be told of bytes, whatever the dialect is.
func wantRead(d api.Dialect, b string) told {
	if e, at := grammar.Right(d); e != api.OK {
		return wrong(e, at, 0)
	}
	head := widthOf(d.MTIEnc, 4)
	if len(b) > 9999 {
		return wrong(api.DefRest, 0, 9999)
	}
	if len(b) < head {
		return wrong(api.DefShort, 0, len(b))
	}
	mti, e, at := wantText(api.ClassN, d.MTIEnc, 4, b)
	if e != api.OK {
		return wrong(api.DefMTI, 0, at)
	}
	i := slices.IndexFunc(d.Rules, func(r api.Rule) bool { return r.MTI == mti })
	if i < 0 {
		return wrong(api.DefMTI, 0, 0)
	}
	numbers, size, e := wantMap(d.MapEnc, b[head:])
	if e == api.DefShort {
		size = len(b) - head
	}
	if e != api.OK {
		return wrong(e, 0, head+size)
	}
	return wantFields(d, d.Rules[i], numbers, b, head+size)
}

// wantMap is the numbers of a bitmap and how many bytes it has; or why not, and where.
func wantMap(enc int, b string) ([]int, int, api.Errno) {
	row, each := "", 8
	if enc != api.BINARY {
		each = 4
	}
	if enc == api.EBCDIC {
		b = swapped(b, signsInEBCDIC, signs)
	}
	at := 0
	for ; len(row) < 64 || row[0] == '1' && len(row) < 128; at++ {
		if at == len(b) {
			return nil, at, api.DefShort
		}
		n := int(b[at])
		if enc != api.BINARY {
			n = strings.IndexByte(sixteenths, b[at])
		}
		if n < 0 {
			return nil, at, api.DefMap
		}
		row += fmt.Sprintf("%0*b", each, n)
	}
	if second := row[64:]; second != "" && (second[0] == '1' || !strings.Contains(second, "1")) {
		return nil, 64 / each, api.DefMap
	}
	var l []int
	for i := 1; i < len(row); i++ {
		if row[i] == '1' {
			l = append(l, i+1)
		}
	}
	return l, at, api.OK
}

func wantFields(d api.Dialect, rule api.Rule, numbers []int, b string, at int) told {
	want := told{m: api.Message{MTI: rule.MTI}}
	begins := map[int]int{}
	for _, n := range numbers {
		i := slices.IndexFunc(d.Fields, func(s api.FieldSpec) bool { return s.Number == n })
		if i < 0 {
			return wrong(api.DefUnknown, n, at)
		}
		f, size, e, place := wantField(d.Fields[i], b[at:])
		if e != api.OK {
			return wrong(e, n, at+place)
		}
		begins[n] = at
		want.m.Fields = append(want.m.Fields, f)
		want.spans = append(want.spans, [2]int{at, size})
		at += size
	}
	if at < len(b) {
		return wrong(api.DefRest, 0, at)
	}
	for n := 2; n <= 128; n++ {
		from, there := begins[n]
		must, may := slices.Contains(rule.Must, n), slices.Contains(rule.May, n)
		if must && !there {
			return wrong(api.DefRule, n, len(b))
		}
		if there && !must && !may {
			return wrong(api.DefRule, n, from)
		}
	}
	return want
}

// wantField is a field at the front of bytes, and how many it has; or why not, and where.
func wantField(s api.FieldSpec, b string) (f api.Field, size int, e api.Errno, at int) {
	f.Number = s.Number
	count, head := s.Size, prefixWidth(s.LenEnc, s.Digits)
	if len(b) < head {
		return f, 0, api.DefShort, len(b)
	}
	if head > 0 {
		n, ok := lengths[lengthKind{s.LenEnc, s.Digits}][b[:head]]
		if !ok || n == 0 || n > s.Size || n == 1 && s.Class == api.ClassX {
			return f, 0, api.DefLength, 0
		}
		count = n
	}
	size = head + widthOf(s.Enc, count)
	if len(b) < size {
		return f, 0, api.DefShort, len(b)
	}
	content := b[head:size]
	switch s.Class {
	case api.ClassB:
		f.Value = content
	case api.ClassT:
		f.Kids, e, at = tlv.Parse(content)
	case api.ClassS:
		f.Kids, e, at = tlv.ParseSub(content)
	default:
		f.Value, e, at = wantText(s.Class, s.Enc, count, content)
		return f, size, e, head + at
	}
	if e != api.OK {
		e = api.DefInner
	}
	return f, size, e, head + at
}

// wantBuild is what is to be written of a message, whatever it and the dialect are.
func wantBuild(d api.Dialect, m api.Message) (string, api.Errno, int) {
	if e, at := grammar.Right(d); e != api.OK {
		return "", e, at
	}
	if e, n := grammar.Fits(d, m); e != api.OK {
		return "", e, n
	}
	row, fields := []byte(strings.Repeat("0", 128)), ""
	for _, f := range m.Fields {
		i := slices.IndexFunc(d.Fields, func(s api.FieldSpec) bool { return s.Number == f.Number })
		fields += wantBytes(d.Fields[i], f)
		row[f.Number-1] = '1'
	}
	b := packed(d.MTIEnc, m.MTI) + wantMapBytes(d.MapEnc, string(row)) + fields
	if len(b) > 9999 {
		return "", api.ErrLength, 0
	}
	return b, api.OK, 0
}

func wantMapBytes(enc int, row string) string {
	if strings.Contains(row[64:], "1") {
		row = "1" + row[1:]
	} else {
		row = row[:64]
	}
	s := ""
	for i := 0; i < len(row); i += 4 {
		n := 0
		fmt.Sscanf(row[i:i+4], "%b", &n)
		s += sixteenths[n : n+1]
	}
	if enc == api.BINARY {
		return unhex(s)
	}
	return packed(enc, s)
}

func wantBytes(s api.FieldSpec, f api.Field) string {
	content, count := f.Value, len(f.Value)
	switch s.Class {
	case api.ClassT:
		content, _ = tlv.Build(f.Kids)
		count = len(content)
	case api.ClassS:
		content, _ = tlv.BuildSub(f.Kids)
		count = len(content)
	case api.ClassB:
	default:
		content = packed(s.Enc, f.Value)
	}
	return wantPrefix(s.LenEnc, s.Digits, count) + content
}
