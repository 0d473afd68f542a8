package grammar

import (
	"slices"

	"turnstile/api"
	"turnstile/digits"
)

const mostName = 16 // characters of a dialect's name

// Numbers of fields: 65 is a bit of the bitmap that tells of no field.
const (
	firstField = 2
	lastField  = 128
	noField    = 65
)

const tagSize = 8 // bytes of a tag

// wrongHead is what is wrong first with a dialect ahead of its specs and rules.
func wrongHead(d api.Dialect) api.Errno {
	switch {
	case !rightName(d.Name):
		return api.ErrName
	case !isVersion(d.Version), !mayWriteType(d.MTIEnc), !mayWriteMap(d.MapEnc):
		return api.ErrVersion
	case len(d.Fields) > api.MaxFields, len(d.Rules) > api.MaxRules:
		return api.ErrMany
	}
	return api.OK
}

func rightName(name string) bool {
	for i := range len(name) {
		if c := name[i]; !isSmall(c) && !isDigit(c) && c != '-' {
			return false
		}
	}
	return 1 <= len(name) && len(name) <= mostName
}

func isVersion(n int) bool { return n == 0 || n == 1 }

func mayWriteType(enc int) bool { return enc == api.ASCII || enc == api.BCD || enc == api.EBCDIC }

func mayWriteMap(enc int) bool { return enc == api.BINARY || enc == api.ASCII || enc == api.EBCDIC }

// wrongSpec is what is wrong first with the spec at a place; those ahead of it are right.
func wrongSpec(d api.Dialect, at int) api.Errno {
	s := d.Fields[at]
	switch {
	case !isField(s.Number), at > 0 && s.Number <= d.Fields[at-1].Number:
		return api.ErrField
	case !mayStand(s.Class, s.Enc):
		return api.ErrClass
	case !rightSize(s):
		return api.ErrSize
	}
	return api.OK
}

func isField(n int) bool { return firstField <= n && n <= lastField && n != noField }

// mayStand tells whether a class may have an encoding; not, if there is no such class.
func mayStand(class, enc int) bool {
	switch class {
	case api.ClassN:
		return enc == api.ASCII || enc == api.BCD || enc == api.EBCDIC
	case api.ClassA, api.ClassAN, api.ClassANS, api.ClassX:
		return enc == api.ASCII || enc == api.EBCDIC
	case api.ClassB, api.ClassT:
		return enc == api.BINARY
	case api.ClassZ:
		return enc == api.ASCII || enc == api.BCDR || enc == api.EBCDIC
	case api.ClassS:
		return enc == api.ASCII
	}
	return false
}

func rightSize(s api.FieldSpec) bool {
	if s.Size < leastCount(s.Class) || s.Size > api.MaxSize {
		return false
	}
	if s.Digits == 0 {
		return s.LenEnc == 0 && s.Class != api.ClassT && s.Class != api.ClassS
	}
	_, e := digits.Prefix(s.LenEnc, s.Digits, s.Size) // if the greatest length can be told, all can
	return e == api.OK
}

// wrongRule is whether there is something wrong with the rule at a place; those ahead of it are right.
func wrongRule(d api.Dialect, at int) api.Errno {
	r := d.Rules[at]
	switch {
	case !isType(r.MTI), typeIn(d, r.MTI) != r.MTI, at > 0 && r.MTI <= d.Rules[at-1].MTI:
		return api.ErrRule
	case !rightNumbers(d, r.Must), !rightNumbers(d, r.May):
		return api.ErrRule
	case slices.ContainsFunc(r.Must, func(n int) bool { return slices.Contains(r.May, n) }):
		return api.ErrRule
	}
	return api.OK
}

// rightNumbers tells whether numbers rise, and are of fields that the dialect has.
func rightNumbers(d api.Dialect, l []int) bool {
	for i, n := range l {
		if _, ok := Spec(d, n); !ok || i > 0 && n <= l[i-1] {
			return false
		}
	}
	return true
}

// wrongTag is whether there is something wrong with the field of the tag; specs are right, so the last one has the greatest number, and one of its class and Digits no other encodings.
func wrongTag(d api.Dialect) api.Errno {
	switch d.MAC {
	case 0:
		return api.OK
	case 64, 128:
		only := api.FieldSpec{Number: d.MAC, Class: api.ClassB, Enc: api.BINARY, Size: tagSize}
		if last := len(d.Fields) - 1; last >= 0 && d.Fields[last] == only {
			return api.OK
		}
	}
	return api.ErrMAC
}
