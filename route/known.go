package route

import (
	"turnstile/api"
	"turnstile/grammar"
)

const anySize = 0

// known is the fields with which the switch itself does something: what it lays into them, and reads in them, must have room there.
var known = [...]struct {
	number, class, size int
	to                  bool // at most size, with a length ahead
}{
	{2, api.ClassN, 19, true},
	{3, api.ClassN, 6, false},
	{4, api.ClassN, 12, false},
	{7, api.ClassN, 10, false},
	{11, api.ClassN, 6, false},
	{12, api.ClassN, 6, false},
	{13, api.ClassN, 4, false},
	{14, api.ClassN, 4, false},
	{32, api.ClassN, 11, true},
	{35, api.ClassZ, 37, true},
	{37, api.ClassAN, 12, false},
	{38, api.ClassAN, 6, false},
	{39, api.ClassAN, 2, false},
	{41, api.ClassANS, 8, false},
	{42, api.ClassANS, 15, false},
	{48, api.ClassS, anySize, true},
	{49, api.ClassN, 3, false},
	{52, api.ClassB, 8, false},
	{66, api.ClassN, 1, false},
	{70, api.ClassN, 3, false},
	{74, api.ClassN, 10, false},
	{75, api.ClassN, 10, false},
	{76, api.ClassN, 10, false},
	{77, api.ClassN, 10, false},
	{86, api.ClassN, 16, false},
	{87, api.ClassN, 16, false},
	{88, api.ClassN, 16, false},
	{89, api.ClassN, 16, false},
	{90, api.ClassN, 42, false},
}

// knownAreSo tells whether a dialect has all that it has of the known fields as they must be; it is right, so Digits are 0 to 4.
func knownAreSo(d api.Dialect) bool {
	for _, k := range known {
		s, ok := grammar.Spec(d, k.number)
		if !ok {
			continue
		}
		if s.Class != k.class || (s.Digits != 0) != k.to || s.Size != k.size && k.size != anySize {
			return false
		}
	}
	return true
}
