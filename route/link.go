package route

import (
	"slices"

	"turnstile/api"
)

// wrongLink is what is wrong first with the link of a number.
func wrongLink(c api.Config, number int) api.Errno {
	if !rightLink(c, number) {
		return api.ErrLink
	}
	l := c.Links[number]
	d := c.Dialects[l.Dialect]
	switch {
	case l.MAC != 0 && !bearsTags(d):
		return api.ErrMAC
	case !knownAreSo(d):
		return api.ErrClass
	}
	return api.OK
}

// rightLink tells whether a link may be, whatever its dialect has.
func rightLink(c api.Config, number int) bool {
	l := c.Links[number]
	switch {
	case !isName(l.Name), slices.ContainsFunc(c.Links[:number], func(o api.Link) bool { return o.Name == l.Name }):
		return false
	case l.Role != api.Acquirer && l.Role != api.Issuer, !isPlace(l.Dialect, len(c.Dialects)):
		return false
	case !isHeader(l.Header), !within(l.Most, 1, api.MaxSize), !isNumber(l.ID, mostID):
		return false
	}
	return rightSeal(l) && mayBeKey(l.PIN) && within(l.Echo, 0, api.MaxTicks) && within(l.Answer, 1, api.MaxTicks)
}

func isHeader(n int) bool {
	switch n {
	case api.HeadTwo, api.HeadFour, api.HeadBCD, api.HeadWhole:
		return true
	}
	return false
}

// rightSeal tells whether a link may have such tags, and such keys of them.
func rightSeal(l api.Link) bool {
	tagged := within(l.Pad, 1, 2) && mayBeKey(l.Exchange)
	switch l.MAC {
	case 0:
		return l.Pad == 0 && l.Key == "" && l.Exchange == ""
	case 1:
		return tagged && len(l.Key) == shortKey
	case 3:
		return tagged && len(l.Key) == longKey
	}
	return false
}

// mayBeKey tells whether a key that need not be there may be so.
func mayBeKey(key string) bool { return key == "" || len(key) == longKey }

// bearsTags tells whether each message of a dialect has room for a tag.
func bearsTags(d api.Dialect) bool {
	without := func(r api.Rule) bool { return !slices.Contains(r.Must, d.MAC) }
	return d.MAC != 0 && !slices.ContainsFunc(d.Rules, without)
}
