package route

import (
	"slices"

	"turnstile/api"
	"turnstile/grammar"
)

// wrongDialects is what is wrong first with the dialects, and with which.
func wrongDialects(c api.Config) (api.Errno, int) {
	if len(c.Dialects) == 0 || len(c.Dialects) > api.MaxDialects {
		return api.ErrMany, 0
	}
	for i, d := range c.Dialects {
		if e, _ := grammar.Right(d); e != api.OK {
			return e, i
		}
		if slices.ContainsFunc(c.Dialects[:i], func(o api.Dialect) bool { return o.Name == d.Name }) {
			return api.ErrName, i
		}
	}
	return api.OK, 0
}

// wrongLinks is what is wrong first with the links, and with which; dialects are right.
func wrongLinks(c api.Config) (api.Errno, int) {
	if len(c.Links) == 0 || len(c.Links) > api.MaxLinks {
		return api.ErrMany, 0
	}
	for i := range c.Links {
		if e := wrongLink(c, i); e != api.OK {
			return e, i
		}
	}
	return api.OK, 0
}

// wrongGroups is what is wrong first with the groups, and with which.
func wrongGroups(c api.Config) (api.Errno, int) {
	if len(c.Groups) > api.MaxGroups {
		return api.ErrMany, 0
	}
	for i, g := range c.Groups {
		named := isName(g.Name) && !slices.ContainsFunc(c.Groups[:i], func(o api.Group) bool { return o.Name == g.Name })
		if !named || !rightMembers(c, g.Links) || !rightLimits(g.Standin) {
			return api.ErrGroup, i
		}
	}
	return api.OK, 0
}

// rightMembers tells whether a group may have these links.
func rightMembers(c api.Config, links []int) bool {
	if !within(len(links), 1, api.MaxLinks) {
		return false
	}
	for i, n := range links {
		if !isPlace(n, len(c.Links)) || c.Links[n].Role != api.Issuer || slices.Contains(links[:i], n) {
			return false
		}
	}
	return true
}

func rightLimits(l api.Limits) bool {
	return within(l.Single, 0, api.MaxUnits) && within(l.Count, 0, api.MaxUnits) && within(l.Sum, 0, api.MaxUnits) && within(l.Window, 1, api.MaxTicks)
}

// wrongRoutes is what is wrong first with the routes, and with which.
func wrongRoutes(c api.Config) (api.Errno, int) {
	if len(c.Routes) > api.MaxRoutes {
		return api.ErrMany, 0
	}
	ahead := New[int]()
	for i, r := range c.Routes {
		switch {
		case !isNumber(r.Prefix, mostRoute), ahead.Put(r.Prefix, i) != api.OK:
			return api.ErrPrefix, i
		case !isPlace(r.Group, len(c.Groups)):
			return api.ErrGroup, i
		}
	}
	return api.OK, 0
}

// wrongNumbers is which of the configuration's own numbers is the first that may not be so.
func wrongNumbers(c api.Config) (api.Errno, int) {
	for i, x := range [...]struct{ n, least, most int }{
		{c.Start, 0, api.MaxMoment},
		{c.Pending, 1, api.MaxPending},
		{c.Timeout, 1, api.MaxTicks},
		{c.Late, 1, api.MaxTicks},
		{c.Queue, 1, api.MaxQueue},
		{c.Retry, 1, api.MaxTicks},
		{c.Tries, 1, mostTries},
		{c.Cards, 1, api.MaxCards},
		{c.Numbers, 1, api.MaxNumber},
	} {
		if !within(x.n, x.least, x.most) {
			return api.ErrConfig, i + 1
		}
	}
	return api.OK, 0
}
