package shell_test

import (
	"os"
	"strings"
	"testing"

	"turnstile/api"
)

// The chapter's examples, and the document's (1 to 10), as the shell tells them.

// TestReadme: the script in README.md tells what stands behind it there.
func TestReadme(t *testing.T) {
	b, err := os.ReadFile("../README.md")
	if err != nil {
		t.Fatal(err)
	}
	blocks := strings.Split(string(b), "```\n")
	for i, s := range blocks {
		if strings.HasSuffix(s, "\ntells\n\n") {
			tells(t, runs(t, blocks[i-1]), blocks[i+1])
			return
		}
	}
	t.Error("README.md has no script")
}

func TestChapterOne(t *testing.T) {
	text := printed(config())
	reads(t, "the configuration of the tests", text, config())
	at := lineOf(t, text, "wait 0 2")
	refuses(t, "a second wait", changed(t, text, "wait 0 2\n", "wait 0 2\nwait 0 2\n"), api.ErrScript, at+1)
	refuses(t, "a nought ahead", changed(t, text, "field 2 ", "field 02 "), api.ErrScript, 2)
	c, d := config(), doc()
	c.Links, c.Dialects = d.Links[:1], d.Dialects
	c.Groups, c.Routes = nil, nil
	text = printed(c)
	if !strings.Contains(text, "\nlink shop acquirer plain four 999 7\nwait 0 2\n") {
		t.Fatalf("the test's text has another link:\n%s", text)
	}
	reads(t, "one link", text, c)
}

func TestChapterTwo(t *testing.T) {
	plays(t, doc(), `
		up shop
		send shop 0800 7=1115120000 11=000009 70=001
		| > shop 0810 7=1115120000 11=000009 39=00 70=001
		send shop 0200 2=x
		| ? 107
		bytes shop 30303034
		bytes shop 30393030
		| ! shop 121 0`)
}

func TestChapterThree(t *testing.T) {
	plays(t, doc(), docOpen+`
		send shop 0200 2=4111111111111111 4=000000001250 7=1115115958 11=000010 49=840
		| > bank 0200 2=4111111111111111 4=000000001250 7=1115120000 11=000002 32=7 37=631912000002 49=840 (12.50)
		send shop 0200 2=4111111111111111 4=000000001250 7=1115115958 11=000011 49=392
		| > bank 0200 2=4111111111111111 4=000000001250 7=1115120000 11=000003 32=7 37=631912000003 49=392 (1250)`)
}

const (
	docOpen = `
		up shop
		up bank
		| > bank 0800 7=1115120000 11=000001 70=001
		send bank 0810 11=000001 39=00 70=001
		send shop 0800 7=1115115900 11=000009 70=001
		| > shop 0810 7=1115115900 11=000009 39=00 70=001`
	docAsk = `
		send shop 0200 2=4111111111111111 3=000000 4=000000001250 7=1115115958 11=000010
		| > bank 0200 2=4111111111111111 3=000000 4=000000001250 7=1115120000 11=000002 32=7 37=631912000002`
	docBack = `2=4111111111111111 3=000000 4=000000001250 7=1115120005 11=000003 32=7 37=631912000002 90=020000000211151200000000000000700000000000`
)

func TestExamplesOneToFour(t *testing.T) {
	plays(t, doc(), docOpen+docAsk+`
		send shop 0200 2=4111111111111111 3=000000 4=000000001250 7=1115115958 11=000010
		| ! shop 191 0
		waiting
		| wait shop bank 2 0200
		send bank 0210 4=000000001250 7=1115120001 11=000002 38=A1B2C3 39=00
		| > shop 0210 4=000000001250 7=1115115958 11=000010 38=A1B2C3 39=00
		send bank 0210 4=000000001250 7=1115120001 11=000002 38=A1B2C3 39=00
		| ! bank 192 0
		waiting
		view
		| time 2026-11-15 12:00:00 ticks 0 pending 0 late 0
		| shop up ready held 0 queued 0 dead 0 keys 0 1 1 0 0 0 0 1 0 0 0 1250 0
		| bank up ready held 0 queued 0 dead 0 keys 0 0 0 0 0 0 0 0 0 0 0 0 0`)
}

func TestExampleFive(t *testing.T) {
	plays(t, doc(), docOpen+docAsk+`
		tick 4
		tick 1
		| > shop 0210 2=4111111111111111 3=000000 4=000000001250 7=1115115958 11=000010 39=68
		| > bank 0420 `+docBack+`
		queued bank
		| queue bank 3 0420
		send bank 0210 11=000002 39=00
		tick 3
		| > bank 0421 `+docBack+`
		send bank 0430 11=000003 39=00
		queued bank
		send bank 0430 11=000003 39=00
		| ! bank 192 0
		view
		| time 2026-11-15 12:00:08 ticks 8 pending 0 late 0
		| shop up ready held 0 queued 0 dead 0 keys 0 1 0 1 0 0 0 0 0 0 0 0 0
		| bank up ready held 0 queued 0 dead 0 keys 0 0 0 0 0 0 0 0 0 0 0 0 0`)
}

func TestExamplesSixAndSeven(t *testing.T) {
	plays(t, doc(), `
		up shop
		send shop 0800 7=1115115900 11=000009 70=001
		| > shop 0810 7=1115115900 11=000009 39=00 70=001
		send shop 0200 2=4111111111111111 3=000000 4=000000001250 7=1115115958 11=000010
		| > shop 0210 2=4111111111111111 3=000000 4=000000001250 7=1115115958 11=000010 38=000001 39=00
		queued bank
		| queue bank 1 0220
		send shop 0200 2=4111111111111111 3=000000 4=000000005001 7=1115115958 11=000011
		| > shop 0210 2=4111111111111111 3=000000 4=000000005001 7=1115115958 11=000011 39=91
		send shop 0200 2=4111111111111112 3=000000 4=000000001250 7=1115115958 11=000012
		| > shop 0210 2=4111111111111112 3=000000 4=000000001250 7=1115115958 11=000012 39=14
		send shop 0200 2=5555555555554444 3=000000 4=000000001250 7=1115115958 11=000012
		| > shop 0210 2=5555555555554444 3=000000 4=000000001250 7=1115115958 11=000012 39=15`)
}

func TestExamplesEightAndNine(t *testing.T) {
	plays(t, doc(), docOpen+`
		send shop 0210 11=000003 39=00
		| ! shop 241 0
		bytes shop 3030303430393030
		| ! shop 121 0
		bytes shop `+sixteenths("00380200722000000000000016411111111111111")+`
		bytes shop 31
		| ! shop 120 38
		bytes shop `+sixteenths("00x0")+`
		| x shop 140
		bytes shop 30
		| ? 243
		up shop
		send shop 0200 2=4111111111111111 3=000000 4=000000001250 7=1115115958 11=000010
		| ! shop 240 0`)
}

func TestExampleTen(t *testing.T) {
	plays(t, doc(), docOpen+`
		tick 49
		tick 1
		| > bank 0800 7=1115120050 11=000002 70=301
		tick 3
		| > bank 0800 7=1115120053 11=000003 70=301
		tick 5
		| > bank 0800 7=1115120056 11=000004 70=301
		tick 1
		| x bank 160`)
}
