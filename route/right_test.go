package route_test

import (
	"fmt"
	"math"
	"math/rand"
	"slices"
	"strings"
	"testing"

	"turnstile/api"
	"turnstile/route"
)

func TestRightExamples(t *testing.T) {
	holds(t, "a right configuration", good(), api.OK, 0)
	c := good()
	c.Dialects = nil
	holds(t, "no dialects", c, api.ErrMany, 0)
	c = good()
	c.Links[1].Most = 0
	holds(t, "the second link's Most is 0", c, api.ErrLink, 1)
	c = good()
	c.Tries = 0
	holds(t, "Tries is 0", c, api.ErrConfig, 7)
	holds(t, "nothing at all", api.Config{}, api.ErrMany, 0)
}

// turn is something that makes a right configuration wrong.
type turn struct {
	name string
	do   func(c *api.Config)
	e    api.Errno
	n    int
}

// turns are such things, in the order in which their errors count.
func turns() []turn {
	return slices.Concat(dialectTurns(), linkTurns(), groupTurns(), routeTurns(), numberTurns())
}

func dialectTurns() []turn {
	l := []turn{
		{"no dialects", func(c *api.Config) { c.Dialects = nil }, api.ErrMany, 0},
		{"33 dialects", func(c *api.Config) { c.Dialects = append(c.Dialects, manyDialects(31)...) }, api.ErrMany, 0},
	}
	for i := range 2 {
		d := func(do func(d *api.Dialect)) func(c *api.Config) { return func(c *api.Config) { do(&c.Dialects[i]) } }
		l = append(l,
			turn{"a name that may not be", d(func(d *api.Dialect) { d.Name = "X" }), api.ErrName, i},
			turn{"a version", d(func(d *api.Dialect) { d.Version = 2 }), api.ErrVersion, i},
			turn{"too many rules", d(func(d *api.Dialect) { d.Rules = make([]api.Rule, 65) }), api.ErrMany, i},
			turn{"a field twice", d(func(d *api.Dialect) { d.Fields[3].Number = d.Fields[2].Number }), api.ErrField, i},
			turn{"no class", d(func(d *api.Dialect) { d.Fields[4].Class = 10 }), api.ErrClass, i},
			turn{"no size", d(func(d *api.Dialect) { d.Fields[5].Size = 0 }), api.ErrSize, i},
			turn{"no type", d(func(d *api.Dialect) { d.Rules[1].MTI = "0900" }), api.ErrRule, i},
			turn{"no tag's field", d(func(d *api.Dialect) { d.MAC = 64 }), api.ErrMAC, i},
		)
	}
	return append(l, turn{"a dialect's name twice", func(c *api.Config) { c.Dialects[1].Name = c.Dialects[0].Name }, api.ErrName, 1})
}

func linkTurns() []turn {
	l := []turn{
		{"no links", func(c *api.Config) { c.Links = nil }, api.ErrMany, 0},
		{"33 links", func(c *api.Config) { c.Links = append(c.Links, manyLinks(29)...) }, api.ErrMany, 0},
	}
	for i := range 4 {
		for _, one := range []struct {
			name string
			do   func(l *api.Link)
		}{
			{"Name", func(l *api.Link) { l.Name = "Shop" }},
			{"Role", func(l *api.Link) { l.Role = 3 }},
			{"Dialect", func(l *api.Link) { l.Dialect = 2 }},
			{"Header", func(l *api.Link) { l.Header = 5 }},
			{"Most", func(l *api.Link) { l.Most = 10000 }},
			{"ID", func(l *api.Link) { l.ID = "" }},
			{"MAC", func(l *api.Link) { l.MAC = 2 }},
			{"Pad", func(l *api.Link) { l.Pad = 3 }},
			{"Key", func(l *api.Link) { l.Key = "7 bytes" }},
			{"Exchange", func(l *api.Link) { l.Exchange = bytes8 }},
			{"PIN", func(l *api.Link) { l.PIN = bytes8 }},
			{"Echo", func(l *api.Link) { l.Echo = -1 }},
			{"Answer", func(l *api.Link) { l.Answer = 0 }},
		} {
			l = append(l, turn{one.name + " of a link", func(c *api.Config) { one.do(&c.Links[i]) }, api.ErrLink, i})
		}
		if i > 0 {
			l = append(l, turn{"a link's name twice", func(c *api.Config) { c.Links[i].Name = c.Links[i-1].Name }, api.ErrLink, i})
		}
		if i == 1 {
			l = append(l, turn{"a rule without the tag", func(c *api.Config) { c.Dialects[0].Rules[1].Must = nil }, api.ErrMAC, i})
			l = append(l, turn{"a known field in another form", func(c *api.Config) { c.Dialects[0].Fields[1].Size = 5 }, api.ErrClass, i})
		}
		if i == 0 {
			l = append(l, turn{"a known field of a link without tags in another form", func(c *api.Config) { c.Dialects[1].Fields[1].Size = 5 }, api.ErrClass, i})
		}
	}
	return l
}

func groupTurns() []turn {
	l := []turn{{"33 groups", func(c *api.Config) { c.Groups = append(c.Groups, manyGroups(30)...) }, api.ErrMany, 0}}
	for i := range 3 {
		for _, one := range []struct {
			name string
			do   func(g *api.Group)
		}{
			{"Name", func(g *api.Group) { g.Name = "" }},
			{"Links", func(g *api.Group) { g.Links = []int{0} }},
			{"Single", func(g *api.Group) { g.Standin.Single = -1 }},
			{"Count", func(g *api.Group) { g.Standin.Count = -1 }},
			{"Sum", func(g *api.Group) { g.Standin.Sum = -1 }},
			{"Window", func(g *api.Group) { g.Standin.Window = 0 }},
		} {
			l = append(l, turn{one.name + " of a group", func(c *api.Config) { one.do(&c.Groups[i]) }, api.ErrGroup, i})
		}
		if i > 0 {
			l = append(l, turn{"a group's name twice", func(c *api.Config) { c.Groups[i].Name = c.Groups[i-1].Name }, api.ErrGroup, i})
		}
	}
	return l
}

func routeTurns() []turn {
	l := []turn{{"4097 routes", func(c *api.Config) { c.Routes = append(c.Routes, manyRoutes(4093)...) }, api.ErrMany, 0}}
	for i := range 4 {
		l = append(l, turn{"a route's prefix", func(c *api.Config) { c.Routes[i].Prefix = "x" }, api.ErrPrefix, i})
		if i > 0 {
			l = append(l, turn{"a route's prefix twice", func(c *api.Config) { c.Routes[i].Prefix = c.Routes[i-1].Prefix }, api.ErrPrefix, i})
		}
		l = append(l, turn{"a route's group", func(c *api.Config) { c.Routes[i].Group = 3 }, api.ErrGroup, i})
	}
	return l
}

func numberTurns() []turn {
	var l []turn
	for i, n := range numbers() {
		for _, wrong := range []int{n.least - 1, n.most + 1} {
			l = append(l, turn{n.name, func(c *api.Config) { *n.of(c) = wrong }, api.ErrConfig, i + 1})
		}
	}
	return l
}

// number is one of a configuration's own.
type number struct {
	name        string
	of          func(c *api.Config) *int
	least, most int
}

// numbers are these, in their order.
func numbers() []number {
	return []number{
		{"Start", func(c *api.Config) *int { return &c.Start }, 0, 3155759999},
		{"Pending", func(c *api.Config) *int { return &c.Pending }, 1, 10000},
		{"Timeout", func(c *api.Config) *int { return &c.Timeout }, 1, 100000},
		{"Late", func(c *api.Config) *int { return &c.Late }, 1, 100000},
		{"Queue", func(c *api.Config) *int { return &c.Queue }, 1, 10000},
		{"Retry", func(c *api.Config) *int { return &c.Retry }, 1, 100000},
		{"Tries", func(c *api.Config) *int { return &c.Tries }, 1, 100},
		{"Cards", func(c *api.Config) *int { return &c.Cards }, 1, 10000},
		{"Numbers", func(c *api.Config) *int { return &c.Numbers }, 1, 999999},
	}
}

// TestOneThingWrong: each thing by itself.
func TestOneThingWrong(t *testing.T) {
	for _, x := range turns() {
		c := good()
		x.do(&c)
		holds(t, x.name, c, x.e, x.n)
	}
}

// TestTheFirstIsTold: of two things that are wrong the one that is named first.
func TestTheFirstIsTold(t *testing.T) {
	l, asked := turns(), 0
	for i, first := range l {
		for _, second := range l[i+1:] {
			c := good()
			second.do(&c)
			first.do(&c)
			if wantRight(c) != (fault{first.e, first.n}) {
				continue // of these two one changes what is wrong with the other: a name twice, none of them left
			}
			asked++
			holds(t, first.name+", ahead of "+second.name, c, first.e, first.n)
		}
	}
	if all := len(l) * (len(l) - 1) / 2; asked < all*95/100 {
		t.Errorf("the test asked only %d of %d pairs", asked, all)
	}
}

// TestLeastAndMost: the numbers at both ends may be, those beyond them may not.
func TestLeastAndMost(t *testing.T) {
	type one struct {
		number
		e api.Errno
		n int
	}
	var l []one
	for i, n := range numbers() {
		l = append(l, one{n, api.ErrConfig, i + 1})
	}
	for i := range 4 {
		l = append(l,
			one{number{"Most", func(c *api.Config) *int { return &c.Links[i].Most }, 1, 9999}, api.ErrLink, i},
			one{number{"Echo", func(c *api.Config) *int { return &c.Links[i].Echo }, 0, 100000}, api.ErrLink, i},
			one{number{"Answer", func(c *api.Config) *int { return &c.Links[i].Answer }, 1, 100000}, api.ErrLink, i},
			one{number{"Header", func(c *api.Config) *int { return &c.Links[i].Header }, 1, 4}, api.ErrLink, i},
			one{number{"Group", func(c *api.Config) *int { return &c.Routes[i].Group }, 0, 2}, api.ErrGroup, i},
		)
	}
	for i := range 3 {
		l = append(l,
			one{number{"Single", func(c *api.Config) *int { return &c.Groups[i].Standin.Single }, 0, 999999999999}, api.ErrGroup, i},
			one{number{"Count", func(c *api.Config) *int { return &c.Groups[i].Standin.Count }, 0, 999999999999}, api.ErrGroup, i},
			one{number{"Sum", func(c *api.Config) *int { return &c.Groups[i].Standin.Sum }, 0, 999999999999}, api.ErrGroup, i},
			one{number{"Window", func(c *api.Config) *int { return &c.Groups[i].Standin.Window }, 1, 100000}, api.ErrGroup, i},
		)
	}
	l = append(l, one{number{"Role", func(c *api.Config) *int { return &c.Links[0].Role }, 1, 2}, api.ErrLink, 0}, one{number{"Dialect", func(c *api.Config) *int { return &c.Links[0].Dialect }, 0, 1}, api.ErrLink, 0})
	for _, x := range l {
		for _, n := range append([]int{x.least, x.least + 1, x.most - 1, x.most, x.least - 1, x.most + 1}, edges...) {
			c := good()
			*x.of(&c) = n
			if n >= x.least && n <= x.most {
				holds(t, fmt.Sprint(x.name, " is ", n), c, api.OK, 0)
			} else {
				holds(t, fmt.Sprint(x.name, " is ", n), c, x.e, x.n)
			}
		}
	}
}

// TestHowMany: as many as there may be, and one more.
func TestHowMany(t *testing.T) {
	for name, x := range map[string]struct {
		most int
		set  func(c *api.Config, n int)
	}{
		"dialects": {30, func(c *api.Config, n int) { c.Dialects = append(c.Dialects, manyDialects(n)...) }},
		"links":    {28, func(c *api.Config, n int) { c.Links = append(c.Links, manyLinks(n)...) }},
		"groups":   {29, func(c *api.Config, n int) { c.Groups = append(c.Groups, manyGroups(n)...) }},
		"routes":   {4092, func(c *api.Config, n int) { c.Routes = append(c.Routes, manyRoutes(n)...) }},
	} {
		for n, e := range map[int]api.Errno{0: api.OK, 1: api.OK, x.most - 1: api.OK, x.most: api.OK, x.most + 1: api.ErrMany, x.most + 1000: api.ErrMany} {
			c := good()
			x.set(&c, n)
			holds(t, fmt.Sprint(n, " more ", name), c, e, 0)
		}
	}
}

// TestWhatNeedNotBe: no group, no route, no link of one of the roles; a link in several groups.
func TestWhatNeedNotBe(t *testing.T) {
	c := good()
	c.Routes = nil
	holds(t, "no routes", c, api.OK, 0)
	c.Groups = nil
	holds(t, "no groups", c, api.OK, 0)
	c.Links = c.Links[:1]
	holds(t, "no issuer", c, api.OK, 0)
	c.Links = good().Links[1:2]
	holds(t, "no acquirer", c, api.OK, 0)
	c.Dialects = c.Dialects[:1]
	holds(t, "one dialect", c, api.OK, 0)
	c = good()
	c.Groups = nil
	holds(t, "routes without groups", c, api.ErrGroup, 0)
	c = good()
	c.Groups, c.Routes = []api.Group{}, []api.Route{}
	holds(t, "lists of nothing", c, api.OK, 0)
	c = good()
	for i := range c.Groups {
		c.Groups[i].Links = []int{1, 2}
	}
	holds(t, "links in all groups", c, api.OK, 0)
}

// TestNames: of links and of groups, of any byte and any length; they may be each other's, and a dialect's.
func TestNames(t *testing.T) {
	var names []string
	for b := range 256 {
		c := string([]byte{byte(b)})
		names = append(names, c, c+"a", "a"+c, "abcdefghijklmno"+c)
	}
	for n := range 20 {
		names = append(names, strings.Repeat("z", n), strings.Repeat("-", n))
	}
	for _, name := range append(append(names, oddNames...), strings.Repeat("a", 1000000)) {
		right := nameForm.MatchString(name)
		for i := range 4 {
			c := good()
			c.Links[i].Name = name
			there := slices.IndexFunc(good().Links, func(l api.Link) bool { return l.Name == name })
			switch {
			case !right:
				holds(t, fmt.Sprintf("a link's name %.20q", name), c, api.ErrLink, i)
			case there >= 0 && there != i:
				holds(t, fmt.Sprintf("a link's name %.20q", name), c, api.ErrLink, max(i, there))
			default:
				holds(t, fmt.Sprintf("a link's name %.20q", name), c, api.OK, 0)
			}
		}
		for i := range 3 {
			c := good()
			c.Groups[i].Name = name
			there := slices.IndexFunc(good().Groups, func(g api.Group) bool { return g.Name == name })
			switch {
			case !right:
				holds(t, fmt.Sprintf("a group's name %.20q", name), c, api.ErrGroup, i)
			case there >= 0 && there != i:
				holds(t, fmt.Sprintf("a group's name %.20q", name), c, api.ErrGroup, max(i, there))
			default:
				holds(t, fmt.Sprintf("a group's name %.20q", name), c, api.OK, 0)
			}
		}
	}
}

// TestDigits: IDs of links and prefixes of routes, of any byte and any length.
func TestDigits(t *testing.T) {
	var texts []string
	for b := range 256 {
		c := string([]byte{byte(b)})
		texts = append(texts, c, c+"8", "8"+c, "8888888888"+c)
	}
	for n := range 22 {
		texts = append(texts, strings.Repeat("8", n), strings.Repeat("0", n))
	}
	for _, s := range append(append(texts, oddNumbers...), strings.Repeat("0", 1000000)) {
		right := numberForm.MatchString(s)
		for i := range 4 {
			c := good()
			c.Links[i].ID = s
			if right {
				holds(t, fmt.Sprintf("a link's ID %.30q", s), c, api.OK, 0)
			} else {
				holds(t, fmt.Sprintf("a link's ID %.30q", s), c, api.ErrLink, i)
			}
			c = good()
			c.Routes[i].Prefix = s
			there := slices.IndexFunc(good().Routes, func(r api.Route) bool { return r.Prefix == s })
			switch {
			case !right:
				holds(t, fmt.Sprintf("a route's prefix %.30q", s), c, api.ErrPrefix, i)
			case there >= 0 && there != i:
				holds(t, fmt.Sprintf("a route's prefix %.30q", s), c, api.ErrPrefix, max(i, there))
			default:
				holds(t, fmt.Sprintf("a route's prefix %.30q", s), c, api.OK, 0)
			}
		}
	}
}

// TestTagsAndKeys: all that a link may have of them together.
func TestTagsAndKeys(t *testing.T) {
	sizes := []int{0, 1, 7, 8, 9, 15, 16, 17, 24}
	for _, mac := range []int{math.MinInt, -1, 0, 1, 2, 3, 4, math.MaxInt} {
		for _, pad := range []int{math.MinInt, -1, 0, 1, 2, 3, math.MaxInt} {
			for _, key := range sizes {
				for _, exchange := range sizes {
					for _, pin := range []int{0, 1, 8, 15, 16, 17} {
						l := good().Links[1]
						l.MAC, l.Pad, l.Key, l.Exchange, l.PIN = mac, pad, strings.Repeat("\x00", key), strings.Repeat("\x01", exchange), strings.Repeat("\xFF", pin)
						tags := mac == 0 && pad == 0 && key+exchange == 0 || (mac == 1 && key == 8 || mac == 3 && key == 16) && (pad == 1 || pad == 2) && (exchange == 0 || exchange == 16)
						want := api.ErrLink
						if tags && (pin == 0 || pin == 16) {
							want = api.OK
						}
						c := api.Config{Dialects: good().Dialects[:1], Links: []api.Link{l}, Pending: 1, Timeout: 1, Late: 1, Queue: 1, Retry: 1, Tries: 1, Cards: 1, Numbers: 1}
						holds(t, fmt.Sprintf("MAC %d, Pad %d, keys of %d, %d, %d bytes", mac, pad, key, exchange, pin), c, want, 0)
					}
				}
			}
		}
	}
}

// TestRoomForTags: a link with tags wants them in each rule of its dialect, one without does not.
func TestRoomForTags(t *testing.T) {
	for name, x := range map[string]struct {
		do func(d *api.Dialect)
		e  api.Errno
	}{
		"no tag in the dialect":            {func(d *api.Dialect) { d.MAC = 0 }, api.ErrMAC},
		"no tag in the dialect, no rules":  {func(d *api.Dialect) { d.MAC, d.Rules = 0, nil }, api.ErrMAC},
		"no rules":                         {func(d *api.Dialect) { d.Rules = nil }, api.OK},
		"the first rule has it not":        {func(d *api.Dialect) { d.Rules[0].Must = []int{2} }, api.ErrMAC},
		"the last rule has nothing":        {func(d *api.Dialect) { d.Rules[1] = api.Rule{MTI: "0800"} }, api.ErrMAC},
		"a rule only lets it be":           {func(d *api.Dialect) { d.Rules[1] = api.Rule{MTI: "0800", May: []int{128}} }, api.ErrMAC},
		"all rules have it":                {func(d *api.Dialect) {}, api.OK},
		"the tag is the field 64":          {func(d *api.Dialect) { *d = short64(64) }, api.OK},
		"the tag is 64, a rule has it not": {func(d *api.Dialect) { *d = short64(3) }, api.ErrMAC},
	} {
		for _, link := range []int{1, 2} {
			c := good()
			x.do(&c.Dialects[0])
			c.Links, c.Groups, c.Routes = []api.Link{c.Links[0], c.Links[link]}, nil, nil
			if x.e == api.OK {
				holds(t, name, c, api.OK, 0)
			} else {
				holds(t, name, c, x.e, 1)
			}
			c.Links[1] = good().Links[3]
			holds(t, name+", and the link has no tags", c, api.OK, 0)
		}
	}
}

// short64 is a dialect with a tag in field 64, and a rule that must have a field.
func short64(must int) api.Dialect {
	return api.Dialect{Name: "short", MTIEnc: api.ASCII, MapEnc: api.BINARY, MAC: 64, Fields: append(knownSpecs(3), spec(64, api.ClassB, 8, 0)), Rules: []api.Rule{{MTI: "0200", Must: []int{must}}}}
}

// TestMembers: which links a group may have.
func TestMembers(t *testing.T) {
	for _, x := range []struct {
		links []int
		ok    bool
	}{
		{nil, false}, {[]int{}, false}, {[]int{1}, true}, {[]int{2, 1}, true}, {[]int{0}, false}, {[]int{3}, false}, {[]int{1, 0}, false}, {[]int{4}, false}, {[]int{-1}, false},
		{[]int{1, 1}, false}, {[]int{1, 2, 1}, false}, {[]int{2, 1, 1}, false}, {[]int{math.MinInt}, false}, {[]int{1, math.MaxInt}, false}, {slices.Repeat([]int{1}, 33), false},
	} {
		for i := range 3 {
			c := good()
			c.Groups[i].Links = x.links
			if x.ok {
				holds(t, fmt.Sprint("a group of ", x.links), c, api.OK, 0)
			} else {
				holds(t, fmt.Sprint("a group of ", x.links), c, api.ErrGroup, i)
			}
		}
	}
	c := good()
	c.Links = manyLinks(32)
	c.Groups = c.Groups[:1]
	c.Routes = nil
	c.Groups[0].Links = nil
	for i := range 32 {
		c.Groups[0].Links = append(c.Groups[0].Links, 31-i)
		holds(t, fmt.Sprint("a group of ", i+1, " links"), c, api.OK, 0)
	}
	c.Groups[0].Links = append(c.Groups[0].Links, 0)
	holds(t, "a group of 33 links", c, api.ErrGroup, 0)
}

// TestBentConfigs: many of which this and that is another thing, against a second reading of the chapter.
func TestBentConfigs(t *testing.T) {
	r, seen := rand.New(rand.NewSource(1501)), codes{}
	for range 40000 {
		c := good()
		for range 1 + r.Intn(4) {
			bend(r, &c)
		}
		want := wantRight(c)
		seen[want.e]++
		if e, n := route.Right(c); e != want.e || n != want.n {
			t.Fatalf("15.5: %d, %d; must be %d, %d: %+v", e, n, want.e, want.n, c)
		}
	}
	seen.enough(t, 100, api.OK, api.ErrName, api.ErrMany, api.ErrClass, api.ErrSize, api.ErrMAC, api.ErrPrefix, api.ErrGroup, api.ErrLink, api.ErrConfig)
}
