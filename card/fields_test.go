package card_test

import (
	"math"
	"strings"
	"testing"

	"turnstile/api"
	"turnstile/card"
)

func field(n int, s string) api.Field { return api.Field{Number: n, Value: s} }

// TestNumberAndExpiry: where both come from, which one is taken, and that nothing is asked of it.
func TestNumberAndExpiry(t *testing.T) {
	track := field(35, "41=3012201")
	for _, c := range []struct {
		fields      []api.Field
		pan, expiry string
	}{
		{nil, "", ""},
		{[]api.Field{}, "", ""},
		{[]api.Field{field(3, "41"), field(34, "41=3012201"), field(36, "41=3012201")}, "", ""},
		{[]api.Field{field(2, "4111")}, "4111", ""},
		{[]api.Field{field(2, "x")}, "x", ""},
		{[]api.Field{field(14, "3011")}, "", "3011"},
		{[]api.Field{field(14, "no month")}, "", "no month"},
		{[]api.Field{track}, "41", "3012"},
		{[]api.Field{field(35, "41==201")}, "41", ""},
		{[]api.Field{field(2, "4111"), track}, "4111", "3012"},
		{[]api.Field{track, field(2, "4111")}, "4111", "3012"},
		{[]api.Field{field(14, "3011"), track}, "41", "3011"},
		{[]api.Field{track, field(14, "3011")}, "41", "3011"},
		{[]api.Field{field(2, "4"), field(14, "9"), track}, "4", "9"},
		// a field that is there and empty is there
		{[]api.Field{field(2, ""), track}, "", "3012"},
		{[]api.Field{field(14, ""), track}, "41", ""},
		{[]api.Field{{Number: 2, Kids: []api.Node{{Tag: 1, Value: "4111"}}}, track}, "", "3012"},
		// the first one holds, right or not
		{[]api.Field{field(2, "1"), field(2, "2")}, "1", ""},
		{[]api.Field{field(2, ""), field(2, "2")}, "", ""},
		{[]api.Field{field(14, "1"), field(14, "3012")}, "", "1"},
		{[]api.Field{field(14, ""), field(14, "3012")}, "", ""},
		{[]api.Field{field(35, "42=3011201"), track}, "42", "3011"},
		{[]api.Field{field(35, "41"), track}, "", ""},
		{[]api.Field{field(35, ""), track}, "", ""},
		// what is no track says nothing, though its PAN and its month can be seen
		{[]api.Field{field(35, "41=3012")}, "", ""},
		{[]api.Field{field(35, "41=3012201=")}, "", ""},
		{[]api.Field{field(35, "41=3013201")}, "", ""},
		{[]api.Field{field(35, "41=3012201"+strings.Repeat("0", 28))}, "", ""},
		{[]api.Field{field(35, "41=3012201"+strings.Repeat("0", 27))}, "41", "3012"},
		{[]api.Field{{Number: 35, Kids: []api.Node{{Tag: 1, Value: "41=3012201"}}}}, "", ""},
		// numbers that no field has
		{[]api.Field{field(0, "a"), field(-2, "b"), field(-14, "c"), field(2+1<<8, "d"), field(14+1<<8, "e"), field(2+1<<32, "f"), field(math.MinInt, "g"), field(math.MaxInt, "h")}, "", ""},
	} {
		for _, mti := range []string{"", "0200", "no type"} {
			m := api.Message{MTI: mti, Fields: c.fields}
			if got := card.Number(m); got != c.pan {
				t.Errorf("C6: Number(%v) = %q, want %q", m, got, c.pan)
			}
			if got := card.Expiry(m); got != c.expiry {
				t.Errorf("C6: Expiry(%v) = %q, want %q", m, got, c.expiry)
			}
		}
	}
}

// TestOtherFields: each number alone is neither, but for three.
func TestOtherFields(t *testing.T) {
	for n := -10; n <= 200; n++ {
		m := api.Message{Fields: []api.Field{field(n, "41=3012201")}}
		pan, expiry := "", ""
		switch n {
		case 2:
			pan = "41=3012201"
		case 14:
			expiry = "41=3012201"
		case 35:
			pan, expiry = "41", "3012"
		}
		if card.Number(m) != pan || card.Expiry(m) != expiry {
			t.Errorf("C6: of a field %d: %q, %q", n, card.Number(m), card.Expiry(m))
		}
	}
}
