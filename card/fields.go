package card

import (
	"strings"

	"turnstile/api"
)

// The fields of a message that tell of its card.
const (
	fieldPAN    = 2
	fieldExpiry = 14
	fieldTrack  = 35
)

// Number is the card number of a message: its field 2, or of its track; empty: none.
func Number(m api.Message) string {
	if v, ok := valueOf(m, fieldPAN); ok {
		return strings.Clone(v)
	}
	return trackOf(m).PAN
}

// Expiry is the last month of a message's card: its field 14, or of its track; empty: none.
func Expiry(m api.Message) string {
	if v, ok := valueOf(m, fieldExpiry); ok {
		return strings.Clone(v)
	}
	return trackOf(m).Expiry
}

// trackOf is what a message's track says: nothing, if it has none.
func trackOf(m api.Message) api.Track {
	v, _ := valueOf(m, fieldTrack) // an empty text is no track either
	t, _, _ := ReadTrack(v)
	return t
}

// valueOf is the value of the first field with a number; false: there is none.
func valueOf(m api.Message, number int) (string, bool) {
	for _, f := range m.Fields {
		if f.Number == number {
			return f.Value, true
		}
	}
	return "", false
}
