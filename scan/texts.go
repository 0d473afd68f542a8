package scan

import (
	"turnstile/api"
	"turnstile/digits"
	"turnstile/grammar"
)

// kind is a class of characters, and how they stand.
type kind struct{ class, enc int }

// verdicts are what is wrong with each byte; OK: nothing.
type verdicts [256]api.Errno

// text is which bytes a kind has.
type text struct {
	kind
	usual verdicts
	apart verdicts // of the one byte that is unlike the others: that of a sign, or of filling
}

// texts are those that were made, so that rows of one kind have one of them.
type texts map[kind]*text

func (l texts) of(k kind) *text {
	if l[k] == nil {
		l[k] = newText(k)
	}
	return l[k]
}

func newText(k kind) *text {
	t := &text{kind: k}
	switch {
	case k.class == api.ClassX:
		t.usual = fine(k.enc, characters(api.ClassN))
		t.apart = fine(k.enc, []string{"C", "D"})
	case k.halves():
		t.usual = fine(k.enc, pairs(characters(k.class)))
		t.apart = filled(k.enc, characters(k.class))
	default:
		t.usual = fine(k.enc, characters(k.class))
	}
	return t
}

// halves tells whether a byte holds two characters.
func (k kind) halves() bool { return k.enc == api.BCD || k.enc == api.BCDR }

// characters are those of a class, of which each may stand at every place.
func characters(class int) []string {
	var l []string
	for c := range 256 {
		s := string([]byte{byte(c)})
		if grammar.Value(api.FieldSpec{Class: class, Size: 1}, api.Field{Value: s}) {
			l = append(l, s)
		}
	}
	return l
}

func pairs(l []string) []string {
	var all []string
	for _, a := range l {
		for _, b := range l {
			all = append(all, a+b)
		}
	}
	return all
}

// nothing is fine in it.
func nothing() verdicts {
	var v verdicts
	for c := range v {
		v[c] = api.DefContent
	}
	return v
}

// fine are the bytes of texts that have one each.
func fine(enc int, l []string) verdicts {
	v := nothing()
	for _, s := range l {
		b, _ := digits.Pack(enc, s)
		v[b[0]] = api.OK
	}
	return v
}

// filled are the bytes of one character each: of all that hold it, the filling of one alone is right.
func filled(enc int, l []string) verdicts {
	v := nothing()
	step := byte(1)
	if enc == api.BCD {
		step = 16 // its filling is the high half
	}
	for _, s := range l {
		b, _ := digits.Pack(enc, s)
		for other := range byte(16) {
			v[b[0]^other*step] = api.DefPad
		}
		v[b[0]] = api.OK
	}
	return v
}

// apartAt is the place of the byte that is unlike the others; -1: there is none.
func (t *text) apartAt(count int) int {
	odd := count%2 == 1
	switch {
	case t.class == api.ClassX, t.enc == api.BCD && odd:
		return 0
	case t.enc == api.BCDR && odd:
		return count / 2
	}
	return -1
}

func (t *text) way() way { return way{t.wrong, t.read, t.write} }

func (t *text) wrong(content string, count int) (api.Errno, int) {
	apart := t.apartAt(count)
	for i := range len(content) {
		of := &t.usual
		if i == apart {
			of = &t.apart
		}
		if e := of[content[i]]; e != api.OK {
			return e, i
		}
	}
	return api.OK, 0
}

func (t *text) read(content string, count int) api.Field {
	s, _, _ := digits.Unpack(t.enc, content, count)
	return api.Field{Value: s}
}

func (t *text) write(f api.Field) (string, int) {
	b, _ := digits.Pack(t.enc, f.Value)
	return b, len(f.Value)
}
