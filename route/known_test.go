package route_test

import (
	"fmt"
	"testing"

	"turnstile/api"
	"turnstile/grammar"
)

// alone is a configuration of one link, whose dialect has one field.
func alone(s api.FieldSpec) api.Config {
	c := good()
	c.Dialects = []api.Dialect{{Name: "d", MTIEnc: api.ASCII, MapEnc: api.ASCII, Fields: []api.FieldSpec{s}}}
	c.Links = c.Links[3:]
	c.Groups, c.Routes = nil, nil
	return c
}

// TestKnownFields: each of them in all classes, with lengths of all digits, and in sizes about its own.
func TestKnownFields(t *testing.T) {
	all := wants()
	if len(all) != 29 {
		t.Fatalf("the table has %d fields", len(all))
	}
	for number, w := range all {
		rights := 0
		for class := 1; class <= 9; class++ {
			for digits := range 5 {
				for _, size := range []int{1, 2, 3, w.size - 1, w.size, w.size + 1, 2 * w.size, 9, 50, 99, 100, 999, 9999} {
					c := alone(spec(number, class, size, digits))
					if e, _ := grammar.Right(c.Dialects[0]); e != api.OK {
						continue
					}
					want := api.ErrClass
					if class == w.class && (digits > 0) == w.digits && (w.size == 0 || size == w.size) {
						want = api.OK
						rights++
					}
					holds(t, fmt.Sprintf("the field %d of class %d and size %d, with %d digits", number, class, size, digits), c, want, 0)
				}
			}
		}
		if rights == 0 {
			t.Errorf("the test saw the field %d in no right form", number)
		}
	}
}

// TestOtherFields: those that are not in the table are as they like.
func TestOtherFields(t *testing.T) {
	all := wants()
	for number := 2; number <= 128; number++ {
		if _, known := all[number]; known || number == 65 {
			continue
		}
		for class := 1; class <= 9; class++ {
			for digits := range 5 {
				c := alone(spec(number, class, 7, digits))
				if e, _ := grammar.Right(c.Dialects[0]); e != api.OK {
					continue
				}
				holds(t, fmt.Sprintf("the field %d of class %d, with %d digits", number, class, digits), c, api.OK, 0)
			}
		}
	}
}

// TestKnownEncodings: a known field may stand in any encoding of its class, and so may its length.
func TestKnownEncodings(t *testing.T) {
	for _, s := range knownSpecs() {
		for enc := 1; enc <= 5; enc++ {
			for length := 0; length <= 5; length++ {
				s.Enc, s.LenEnc = enc, length
				c := alone(s)
				if e, _ := grammar.Right(c.Dialects[0]); e != api.OK {
					continue
				}
				holds(t, fmt.Sprint("the spec ", s), c, api.OK, 0)
			}
		}
	}
}

// TestDialectsOfLinks: a known field in another form is told of the first link that has it so, and of none, if no link has that dialect.
func TestDialectsOfLinks(t *testing.T) {
	odd := plain()
	odd.Name, odd.Fields = "odd", []api.FieldSpec{spec(3, api.ClassN, 7, 0)}
	odd.Rules = nil
	c := good()
	c.Dialects = append(c.Dialects, odd)
	holds(t, "a dialect of no link has field 3 in another form", c, api.OK, 0)
	c.Links[3].Dialect = 2
	holds(t, "the dialect of link 3 has", c, api.ErrClass, 3)
	c.Links[0].Dialect = 2
	holds(t, "the dialect of the links 0 and 3 has", c, api.ErrClass, 0)
	c.Links[0].Most = 0
	holds(t, "and link 0 has another fault", c, api.ErrLink, 0)
	c = good()
	c.Dialects = append(c.Dialects, odd)
	c.Links[1].Dialect = 2
	holds(t, "the dialect of a link with tags has neither the right form nor a tag", c, api.ErrMAC, 1)
	c.Links[2].Most = 0
	holds(t, "and the link behind it has another fault", c, api.ErrMAC, 1)
	c.Links[0].Most = 0
	holds(t, "and the link ahead of it has another fault", c, api.ErrLink, 0)
	c = good()
	c.Dialects = append(c.Dialects, odd)
	c.Links[0].Dialect, c.Links[1].Most = 2, 0
	holds(t, "the form ahead of the next link's fault", c, api.ErrClass, 0)
}
