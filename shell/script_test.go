package shell_test

import (
	"math"
	"strings"
	"testing"

	"turnstile/api"
	"turnstile/core"
	"turnstile/shell"
)

// Which scripts may be, and where one that may not is wrong (S4).

// head is a configuration's text up to its line `go`, which has this number.
const (
	head   = short + "go\n"
	goLine = 21
)

func TestNothingHappens(t *testing.T) {
	for _, script := range []string{head, short + "go", short + "  go  # on with it\n\n #\n", head + "waiting\nqueued bank\nkey shop 00\nkey bank 00\n"} {
		tells(t, runs(t, script), "")
	}
}

func TestStacksThatThereAre(t *testing.T) {
	for _, stack := range []int{math.MinInt, -1, 0, 3, math.MaxInt} {
		for _, script := range []string{head, "", head + "no command", strings.Repeat("#", 100000)} {
			if s, e, n := shell.Run(script, stack); s != "" || e != api.ErrArg || n != 0 {
				t.Errorf("S4: Run with the stack %d is %q, %s, %d", stack, s, nameOf(e), n)
			}
		}
		if s, e, n := shell.Run(strings.Repeat("#", 100001), stack); s != "" || e != api.ErrLong || n != 0 {
			t.Errorf("S4: Run of too much with the stack %d is %q, %s, %d", stack, s, nameOf(e), n)
		}
	}
	if core.Tree != 1 || core.Scan != 2 {
		t.Error("S4: the stacks are other ones")
	}
}

func TestHowLongScriptsAre(t *testing.T) {
	tells(t, runs(t, head+strings.Repeat("#", 100000-len(head))), "")
	stops(t, "100001 bytes", head+strings.Repeat("#", 100001-len(head)), api.ErrLong, 0)
	stops(t, "100001 bytes of nothing", strings.Repeat("x", 100001), api.ErrLong, 0)
	stops(t, "100000 bytes of nothing", strings.Repeat("x", 100000), api.ErrScript, 1)
}

func TestWhereScriptsAreWrong(t *testing.T) {
	for what, x := range map[string]struct {
		script string
		e      api.Errno
		n      int
	}{
		"nothing":                               {"", api.ErrScript, 1},
		"a line feed":                           {"\n", api.ErrScript, 2},
		"go alone":                              {"go", api.ErrScript, 1},
		"go behind nothing":                     {"\n#\n go\n", api.ErrScript, 3},
		"no go":                                 {short, api.ErrScript, 21},
		"no go, no line feed":                   {strings.TrimSuffix(short, "\n"), api.ErrScript, 21},
		"no go, and a remark":                   {short + "# go", api.ErrScript, 22},
		"no go, no start":                       {changed(t, short, "start", "# start"), api.ErrScript, 21},
		"no start":                              {changed(t, head, "start", "# start"), api.ErrScript, goLine},
		"no table":                              {changed(t, head, "table", "# table"), api.ErrScript, goLine},
		"no queue":                              {changed(t, head, "queue", "# queue"), api.ErrScript, goLine},
		"no queue, and a wrong command":         {changed(t, head, "queue", "# queue") + "up nobody\n", api.ErrScript, goLine},
		"queue behind go":                       {changed(t, head, "queue 6 4 7\n", "") + "queue 6 4 7\n", api.ErrScript, goLine - 1},
		"go too early":                          {changed(t, head, "start", "go\nstart"), api.ErrScript, 18},
		"a wrong line of the configuration":     {changed(t, head, "route 4", "route x") + "up nobody\n", api.ErrScript, 17},
		"a command ahead of go":                 {changed(t, head, "go\n", "up shop\ngo\n"), api.ErrScript, goLine},
		"go and more":                           {changed(t, head, "go\n", "go on\n"), api.ErrScript, goLine},
		"GO":                                    {changed(t, head, "go\n", "GO\n"), api.ErrScript, goLine},
		"go and a wrong byte":                   {changed(t, head, "go\n", "go\t\n"), api.ErrScript, goLine},
		"a wrong byte alone in the place of go": {changed(t, head, "go\n", "\r\n"), api.ErrScript, goLine},
		"go twice":                              {head + "go\n", api.ErrScript, goLine + 1},
		"a line of a configuration behind go":   {head + "wait 0 2\n", api.ErrScript, goLine + 1},
		"a group behind go":                     {head + "view\ngroup gold 5000 2 8000 60 bank", api.ErrScript, goLine + 2},
		"a wrong number":                        {changed(t, head, "queue 6 4 7", "queue 6 4 0"), api.ErrConfig, goLine},
		"a wrong link":                          {changed(t, head, "wait 50 3", "wait 50 0"), api.ErrLink, goLine},
		"a wrong link, and lines of nothing":    {"\n\n" + changed(t, head, "wait 50 3", "wait 50 0"), api.ErrLink, goLine + 2},
		"a wrong link, and commands":            {changed(t, head, "wait 50 3", "wait 50 0") + "up shop\nview\n", api.ErrLink, goLine},
		"a wrong link, and a wrong command":     {changed(t, head, "wait 50 3", "wait 50 0") + "up shop\nviews\n", api.ErrScript, goLine + 2},
		"two links of a name, and one of it":    {changed(t, changed(t, head, "link bank", "link shop"), "60 bank", "60 shop") + "up shop\nup bank\n", api.ErrScript, goLine + 2},
		"two links of a name, and commands":     {changed(t, changed(t, head, "link bank", "link shop"), "60 bank", "60 shop") + "up shop\n", api.ErrLink, goLine},
		"the first of two wrong commands":       {head + "\n# \nup nobody\ndown nobody\n", api.ErrScript, goLine + 3},
	} {
		stops(t, what, x.script, x.e, x.n)
	}
}

// TestWrongCommands: each is told at its line, though others ahead of it could be done.
func TestWrongCommands(t *testing.T) {
	for _, line := range []string{
		"up", "up shop bank", "up nobody", "up Shop", "up 0", "up gold", "up one", "Up shop", "ups shop", "up\tshop", "up \x80", "up shop\x00", "\xFF", "\r", "up shop\r",
		"down", "down shop shop", "down nobody",
		"tick", "tick 0", "tick 100001", "tick 01", "tick 00001", "tick -1", "tick +1", "tick x", "tick 1 1", "tick 1.5", "tick 999999999999", "tick 1000000000000", "tick 18446744073709551617", "tick 100000000000000000001", "tick shop",
		"bytes", "bytes shop", "bytes shop 0", "bytes shop 00 00", "bytes shop 000", "bytes shop 0a", "bytes shop 0G", "bytes nobody 00", "bytes 00", "bytes shop $00", "bytes shop -", "bytes 00 shop",
		"send", "send shop", "send nobody 0800", "send 0800", "send shop 800", "send shop 08000", "send shop 080x", "send shop x", "send 0800 shop", "send shop 0800 70", "send shop 0800 =", "send shop 0800 70=", "send shop 0800 =70", "send shop 0800 70 =001",
		"send shop 0800 70= 001", "send shop 0800 070=001", "send shop 0800 00=1", "send shop 0800 1000=001", "send shop 0800 0070=001", "send shop 0800 -7=1", "send shop 0800 +7=1", "send shop 0800 x=1", "send shop 0800 7.0=1", "send shop 0800 70:001",
		"send shop 0800 7=1 7=1", "send shop 0800 7=1 11=2 7=1", "send shop 0800 7=1 11=2 70=3 11=2", "send shop 0800 7=1 7=2", "send shop 0800 7=1 11=2 70=3 3=1 70=$41", "send shop 0800 0=1 0=1", "send shop 0800 70=$", "send shop 0800 70=$0", "send shop 0800 70=$303",
		"send shop 0800 70=$30$30", "send shop 0800 70=$$30", "send shop 0800 70=$3g", "send shop 0800 70=$3a", "send shop 0800 70=$_", "send shop 0800 70=#", "send shop 0800 70=$#30", "send shop 0800 70=\x7F", "send shop 0800 70=\xE4", "send shop 0800 0800",
		"key", "key shop", "key nobody 00", "key shop -", "key shop 0", "key shop 00 00", "key shop ab", "key 00", "key bank $00",
		"view shop", "view 1", "View", "views", "waiting shop", "waits", "wait", "wait shop bank 2 0200", "queued", "queued nobody", "queued bank bank", "queued 1", "queue bank", "check check", "check 1", "checks", "Check",
		"go", "go go", "end", "quit", "0", "-", "=", "$", "_", "shop", "shop up", ">", "! shop 1 0", "? 243", "tick 1 up shop", "up shop tick 1", "up shop; tick 1",
	} {
		stops(t, line, head+"up shop\n"+line+"\nview\n", api.ErrScript, goLine+2)
		stops(t, line+", ahead of all", head+"  "+line+" # a remark\ntick 0\n", api.ErrScript, goLine+1)
		stops(t, line+", at the end", head+"\n\n"+line, api.ErrScript, goLine+3)
	}
}

// TestWordsThatAreNotThere: what is not said is nobody's name.
func TestWordsThatAreNotThere(t *testing.T) {
	text := strings.NewReplacer("one", "x", "shop", "x", "gold", "x").Replace(head)
	for _, line := range []string{"up", "down", "queued", "bytes", "key", "send", "tick", "send x", "key x", "bytes x"} {
		stops(t, line, text+line, api.ErrScript, goLine+1)
	}
	for line, without := range map[string]string{"route 4 x": "route 4", "group x 5000 2 8000 60 bank": "group x 5000 2 8000 60", "link x acquirer x four 999 7": "link x acquirer x four 999", "pin 00112233445566778899AABBCCDDEEFF": "pin"} {
		refuses(t, without, changed(t, strings.TrimSuffix(text, "go\n"), line, without), api.ErrScript, lineOf(t, text, line))
	}
	tells(t, runs(t, text+"up x\ndown x\n"), "")
}

// TestRightCommands: such as may be, though nothing may come of them.
func TestRightCommands(t *testing.T) {
	for _, x := range []struct{ line, want string }{
		{"up shop", ""},
		{"  up   shop   # a remark", ""},
		{"up shop#a remark", ""},
		{"down shop", "? 243\n"},
		{"down bank", "? 243\n"},
		{"up bank\nup bank", "! bank 110 0\n? 243\n"},
		{"up shop\ndown shop\nup shop", ""},
		{"tick 1", ""},
		{"tick 100000", ""},
		{"bytes shop 00", "? 243\n"},
		{"bytes shop " + strings.Repeat("00", 40000), "? 243\n"},
		{"up shop\nbytes shop 30\nbytes shop 303030", ""},
		{"key shop 00", ""},
		{"key bank " + strings.Repeat("FF", 40000), ""},
		{"send shop 0000", "? 110\n"},
		{"send shop 0800", "? 243\n"},
		{"send shop 0800 #7=1 7=1", "? 243\n"},
		{"send shop 0800 0=x", "? 102\n"},
		{"send shop 0800 999=x", "? 102\n"},
		{"send shop 0800 3==", "? 109\n"},
		{"send shop 0800 2===", "? 107\n"},
		{"send shop 0800 2=1$", "? 107\n"},
		{"send shop 0800 2=1_#", "? 107\n"},
		{"send shop 0800 2=$41", "? 107\n"},
		{"send shop 0800 2=$34313131", "? 243\n"},
		{"send shop 0800 2=1", "? 243\n"},
		{"waiting", ""},
		{"queued shop", ""},
		{"check", "journal 0 00000000 same\n"},
	} {
		tells(t, runs(t, head+x.line), x.want)
		tells(t, runs(t, head+x.line+"\n"), x.want)
	}
}

// TestAllIsLookedAtFirst: a wrong line far behind lets nothing happen, and a configuration that is not right is told behind it.
func TestAllIsLookedAtFirst(t *testing.T) {
	many := strings.Repeat("up shop\ndown shop\n", 1000)
	stops(t, "a wrong line at the end", head+many+"up", api.ErrScript, goLine+2001)
	wrong := changed(t, head, "table 2 5", "table 2 0")
	stops(t, "a wrong line at the end", wrong+many+"up", api.ErrScript, goLine+2001)
	stops(t, "a wrong configuration", wrong+many, api.ErrConfig, goLine)
}
