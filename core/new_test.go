package core_test

import (
	"math"
	"testing"

	"turnstile/api"
	"turnstile/core"
)

// edges are numbers at and about those that the chapter names, and far from them.
var edges = []int{math.MinInt, math.MinInt + 1, -1 << 32, -1, 0, 1, 2, 3, 4, 5, 6, 31, 32, 33, 99999, 100000, 100001, 1 << 32, math.MaxInt - 1, math.MaxInt}

// TestStacks: there are two, and no others; that is asked first.
func TestStacks(t *testing.T) {
	for _, n := range edges {
		if n == core.Tree || n == core.Scan {
			continue
		}
		for _, c := range []api.Config{config(), {}} {
			if s, e, at := core.New(c, n); s != nil || e != api.ErrArg || at != 0 {
				t.Errorf("C1: New with the stack %d is %s, %d", n, nameOf(e), at)
			}
		}
	}
	if core.Tree != 1 || core.Scan != 2 {
		t.Error("24: the stacks are 1 and 2")
	}
}

// TestWrongConfigurations: route.Right's error, and its number.
func TestWrongConfigurations(t *testing.T) {
	for i, x := range []struct {
		bend func(c *api.Config)
		e    api.Errno
		at   int
	}{
		{func(c *api.Config) { *c = api.Config{} }, api.ErrMany, 0},
		{func(c *api.Config) { c.Dialects[2].Name = "plain" }, api.ErrName, 2},
		{func(c *api.Config) { c.Dialects[1].Version = 2 }, api.ErrVersion, 1},
		{func(c *api.Config) { c.Links[3].Most = 0 }, api.ErrLink, 3},
		{func(c *api.Config) { c.Links[2].Dialect = 0 }, api.ErrMAC, 2},
		{func(c *api.Config) { c.Dialects[0].Fields[2].Size = 11 }, api.ErrClass, 0},
		{func(c *api.Config) { c.Groups[1].Links = []int{0} }, api.ErrGroup, 1},
		{func(c *api.Config) { c.Routes[2].Prefix = "4" }, api.ErrPrefix, 2},
		{func(c *api.Config) { c.Pending = 0 }, api.ErrConfig, 2},
		{func(c *api.Config) { c.Numbers = 1000000 }, api.ErrConfig, 9},
	} {
		for _, stack := range []int{core.Tree, core.Scan} {
			c := config()
			x.bend(&c)
			if s, e, at := core.New(c, stack); s != nil || e != x.e || at != x.at {
				t.Errorf("C1: case %d: New is %s, %d; must be %s, %d", i, nameOf(e), at, nameOf(x.e), x.at)
			}
		}
	}
}

// TestNothingHasHappened: all links are down, nothing waits, nothing is counted.
func TestNothingHasHappened(t *testing.T) {
	for _, c := range []api.Config{config(), doc()} {
		p := newPair(t, c)
		v := p.s[0].View()
		if n := len(c.Links); len(v.Up) != n || len(v.Ready) != n || len(v.Held) != n || len(v.Queued) != n || len(v.Dead) != n || len(v.Keys) != n || len(v.Counts) != n {
			t.Fatalf("C4: of %d links View is %+v", n, v)
		}
		for _, l := range c.Links {
			p.plays(`
				= ` + l.Name + ` down off held 0 queued 0 dead 0 keys 0
				= ` + l.Name + ` counts 0 0 0 0 0 0 0 0 0 0 0 0
				= ` + l.Name + ` queue`)
		}
		p.plays(`
			= all now 0 pending 0 late 0
			= waits`)
	}
}

// TestQueuedOfNoLink: nothing, whatever the number.
func TestQueuedOfNoLink(t *testing.T) {
	p := played(t, config(), openShop, standsIn)
	for _, n := range edges {
		want := 0
		if n == 1 {
			want = 1
		}
		if l := p.s[0].Queued(n); len(l) != want {
			t.Errorf("C4: Queued(%d) is %v", n, l)
		}
	}
}

// TestSmallest: a configuration without groups and routes, of one link, and one whose numbers are the least that may be.
func TestSmallest(t *testing.T) {
	c := config()
	c.Links, c.Groups, c.Routes = c.Links[:1], nil, nil
	c.Pending, c.Timeout, c.Late, c.Queue, c.Retry, c.Tries, c.Cards, c.Numbers, c.Start = 1, 1, 1, 1, 1, 1, 1, 1, 0
	played(t, c, `
		up shop
		in shop 0800 7=1115115900 11=000009 70=001
		> shop 0810 7=1115115900 11=000009 39=00 70=001
		in shop 0200 2=4111111111111111 4=000000001250
		> shop 0210 2=4111111111111111 4=000000001250 39=15
		in shop 0220 2=4111111111111111 4=000000001250
		> shop 0230 2=4111111111111111 4=000000001250 39=15
		tick 100000
		= all now 100000 pending 0 late 0`)
}
