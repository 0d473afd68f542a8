package message

import (
	"turnstile/api"
	"turnstile/bitmap"
)

// wrong is why nothing is done with a message that is not whole.
func wrong(m api.Message) api.Errno {
	switch {
	case !Right(m.MTI):
		return api.ErrMTI
	case !Whole(m):
		return api.ErrMessage
	}
	return api.OK
}

func isField(number int) bool {
	_, e := bitmap.Of(number)
	return e == api.OK
}

// soundFields tells whether all are sound, and their numbers rise.
func soundFields(l []api.Field) bool {
	last := 0
	for _, f := range l {
		if f.Number <= last || !soundField(f) {
			return false
		}
		last = f.Number
	}
	return true
}

func soundField(f api.Field) bool {
	if !isField(f.Number) || f.Value != "" && len(f.Kids) > 0 {
		return false
	}
	_, ok := roomBehind(f.Kids, 1, api.MaxNodes)
	return ok
}

// roomBehind goes over nodes that stand so deep, and those within them, of which there is room for so many: it is how much of that is left; false, if they are not sound.
// It ends at the first one too many: lists that stand in many places may be more nodes than can be gone over.
func roomBehind(l []api.Node, deep, room int) (int, bool) {
	if len(l) > 0 && deep > api.MaxNest {
		return 0, false
	}
	for _, n := range l {
		if room == 0 || n.Tag < 0 || n.Value != "" && len(n.Kids) > 0 {
			return 0, false
		}
		var ok bool
		if room, ok = roomBehind(n.Kids, deep+1, room-1); !ok {
			return 0, false
		}
	}
	return room, true
}
