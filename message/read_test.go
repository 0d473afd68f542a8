package message_test

import (
	"math/rand"
	"strconv"
	"strings"
	"testing"

	"turnstile/api"
	"turnstile/message"
)

func readMust(t *testing.T, s string) int {
	t.Helper()
	want, e, line := readIs(s)
	got, g, n := message.Read(s)
	if g != e || n != line || seen(got) != seen(want) {
		t.Errorf("G10: Read(%.300q) = %.300s, %d, %d, must be %.300s, %d, %d", s, seen(got), g, n, seen(want), e, line)
	}
	return line
}

// refused: Read tells this line.
func refused(t *testing.T, line int, s string) {
	t.Helper()
	if got, e, n := message.Read(s); seen(got) != seen(of("")) || e != api.ErrLine || n != line {
		t.Errorf("G10: Read(%.300q) = %.300s, %d, %d, must be ErrLine, %d", s, seen(got), e, n, line)
	}
}

func taken(t *testing.T, s string, want api.Message) {
	t.Helper()
	if got, e, n := message.Read(s); seen(got) != seen(want) || e != api.OK || n != 0 {
		t.Errorf("G10: Read(%.300q) = %.300s, %d, %d, must be %.300s", s, seen(got), e, n, seen(want))
	}
}

func TestReadOfTheExamples(t *testing.T) {
	m, s := printed()
	taken(t, s, m)
	refused(t, 6, "0100\n2=4111\n55:\n.40785=\\01\\5C\n.112:\n")
	refused(t, 1, "0100")
	refused(t, 3, "0100\n2=a\n2=b\n")
	refused(t, 2, "0100\n2=\\41\n")
}

// TestReadOfLines: the line that can't stand there is the last one that is looked at, whatever follows.
func TestReadOfLines(t *testing.T) {
	for s, line := range map[string]int{
		"": 1, "\n": 1, "0100": 1, "0400\n": 1, "0100 \n": 1, " 0100\n": 1, "0100\r\n": 1, "100\n": 1, "2=a\n": 1, "0400": 1,
		"0100\n\n": 2, "0100\n2": 2, "0100\n2\n": 2, "0100\n=\n": 2, "0100\n:\n": 2, "0100\n2 =a\n": 2, "0100\n 2=a\n": 2, "0100\n02=a\n": 2, "0100\n+2=a\n": 2, "0100\n-2=a\n": 2, "0100\n1=a\n": 2, "0100\n0=a\n": 2, "0100\n65=a\n": 2, "0100\n129=a\n": 2, "0100\n2a=b\n": 2, "0100\n2=a": 2, "0100\n2_=a\n": 2, "0100\n0x2=a\n": 2, "0100\n20000000000000000000=a\n": 2,
		"0100\n.2=a\n": 2, "0100\n0100\n": 2, "0100\n0100": 2,
		"0100\n2=a\n2=b\n": 3, "0100\n3=a\n2=b\n": 3, "0100\n3=a\n.2=b\n": 3, "0100\n3=a\n\n": 3, "0100\n3=a\n4": 3, "0100\n3=a\n4=\n4=\n": 4,
		"0100\n55:": 2, "0100\n55:a\n": 2, "0100\n55: \n": 2, "0100\n55::\n": 2, "0100\n55:=\n": 2, "0100\n55:\n": 3, "0100\n65:\n": 2, "0100\n1:\n": 2, "0100\n2:\n.1=\n2:\n": 4,
		"0100\n55:\n56=a\n": 3, "0100\n55:\n..1=a\n": 3, "0100\n55:\n.=a\n": 3, "0100\n55:\n.-1=a\n": 3, "0100\n55:\n.01=a\n": 3, "0100\n55:\n.00=a\n": 3, "0100\n55:\n.-0=a\n": 3, "0100\n55:\n.+0=a\n": 3, "0100\n55:\n.9223372036854775808=a\n": 3, "0100\n55:\n.1=a": 3, "0100\n55:\n.1": 3, "0100\n55:\n.": 3, "0100\n55:\n.\n": 3, "0100\n55:\n.1:a\n": 3, "0100\n55:\n. 1=a\n": 3, "0100\n55:\n.1.=a\n": 3,
		"0100\n55:\n.1=a\n..2=b\n": 4, "0100\n55:\n.1:\n": 4, "0100\n55:\n.1:\n.2=b\n": 4, "0100\n55:\n.1:\n56=b\n": 4, "0100\n55:\n.1:\n...2=b\n": 4, "0100\n55:\n.1:\n..2": 4,
		"0100\n55:\n.1:\n..2:\n..3=\n": 5, "0100\n55:\n.1:\n..2=\n...3=\n": 5, "0100\n55:\n.1:\n..2=\n.3=\n..4=\n": 6, "0100\n55:\n.1:\n..2=\n55=\n": 5, "0100\n55:\n.1:\n..2=\n56=\n.1=\n": 6, "0100\n55=\n.1=\n": 3,
		"0100\n2=\\\n": 2, "0100\n2=\\0\n": 2, "0100\n2=\\0a\n": 2, "0100\n2=\\a0\n": 2, "0100\n2=\\G0\n": 2, "0100\n2=\\0G\n": 2, "0100\n2=\\20\n": 2, "0100\n2=\\7E\n": 2, "0100\n2=\\5B\n": 2, "0100\n2=\\5D\n": 2, "0100\n2=\\\\\n": 2, "0100\n2=a\\\n": 2, "0100\n2=a\\5\n": 2, "0100\n2=\x00\n": 2, "0100\n2=\x1F\n": 2, "0100\n2=\x7F\n": 2, "0100\n2=\x80\n": 2, "0100\n2=\xFF\n": 2, "0100\n2=é\n": 2, "0100\n2=\t\n": 2, "0100\n2=a\r\n": 2,
		"0100\n55:\n.1=\\41\n": 3, "0100\n55:\n.1=\\0": 3,
	} {
		refused(t, line, s)
		if strings.HasSuffix(s, "\n") && strings.Count(s, "\n") == line {
			for _, behind := range []string{"x", "\n", "2=a\n", "128=a\n", ".1=\n", "0100\n"} {
				refused(t, line, s+behind)
			}
		}
	}
	taken(t, "0100\n", of("0100"))
	taken(t, "1421\n2=\n3== :.\n128=\\5C\\1F\\7F\n", of("1421", field(2, ""), field(3, "= :."), field(128, "\\\x1F\x7F")))
	taken(t, "0100\n55:\n.0=\n.9223372036854775807=\n.1:\n..1:\n...1=.\n.1=\n128:\n.0:\n..0=\n", of("0100",
		kids(55, leaf(0, ""), leaf(1<<63-1, ""), inner(1, inner(1, leaf(1, "."))), leaf(1, "")), kids(128, inner(0, leaf(0, "")))))
}

func TestReadByNumbers(t *testing.T) {
	for n := -1; n <= 300; n++ {
		text := "0100\n" + strconv.Itoa(n) + "=a\n"
		if isField(n) {
			taken(t, text, of("0100", field(n, "a")))
			taken(t, "0100\n"+strconv.Itoa(n)+":\n.1=a\n", of("0100", kids(n, leaf(1, "a"))))
		} else {
			refused(t, 2, text)
			refused(t, 2, "0100\n"+strconv.Itoa(n)+":\n.1=a\n")
		}
	}
	for _, s := range asked() {
		if strings.Contains(s, "\n") {
			continue
		}
		if isType(s) {
			taken(t, s+"\n", of(s))
		} else {
			refused(t, 1, s+"\n")
		}
		refused(t, 1, s)
	}
}

// TestReadByDepth: a : behind which no Kid may stand can't stand there itself.
func TestReadByDepth(t *testing.T) {
	text := "0100\n55:\n"
	for deep := 1; deep <= 8; deep++ {
		dots := strings.Repeat(".", deep)
		m, e, n := message.Read(text + dots + "1=x\n")
		if e != api.OK || n != 0 || !whole(m) {
			t.Errorf("G10: Read of nodes %d deep = %d, %d", deep, e, n)
		}
		refused(t, deep+2, text)
		refused(t, deep+2, text+dots+".1=\n")
		text += dots + "1:\n"
	}
	refused(t, 10, text)
	refused(t, 10, text+".........1=\n")
	refused(t, 11, strings.TrimSuffix(text, ":\n")+"=\n.........1=\n")
}

func TestReadByCount(t *testing.T) {
	head := "0100\n48:\n" + strings.Repeat(".1=\n", 500) + "55:\n"
	lines := strings.Count(head, "\n")
	nodes := func(n int) string { return head + strings.Repeat(".1=\n", n) }
	for n := 497; n <= 500; n++ {
		for _, s := range []string{nodes(n), nodes(n-2) + ".1:\n..1=\n", head + ".1:\n" + strings.Repeat("..1=\n", n-1) + "56=\n", nodes(n) + "56:\n" + strings.Repeat(".1=\n", 500)} {
			if m, e, at := message.Read(s); e != api.OK || at != 0 || !whole(m) {
				t.Errorf("G10: Read of %d nodes = %d, %d", n, e, at)
			}
		}
	}
	for n := 497; n < 500; n++ {
		refused(t, lines+n+1, nodes(n-1)+".1:\n")
	}
	refused(t, lines+500, nodes(499)+".1:\n")
	refused(t, lines+500, nodes(499)+".1:\n..1=\n")
	refused(t, lines+500, nodes(498)+".1:\n..1:\n...1=\n")
	refused(t, lines+501, nodes(498)+".1:\n..1=\n.1=\n")
	refused(t, lines+501, nodes(500)+".1=\n")
	refused(t, lines+501, nodes(500)+".1:\n")
	refused(t, lines+501, head+".1:\n"+strings.Repeat("..1=\n", 500)+"56=\n")
}

// TestReadOfBentTexts: each text with one byte, or one line, another, more or less.
func TestReadOfBentTexts(t *testing.T) {
	_, s := printed()
	for i := range len(s) + 1 {
		readMust(t, s[:i])
		for _, c := range "0129.:=\\AaF\n \x7F-" {
			readMust(t, s[:i]+string(c)+s[i:])
			if i < len(s) {
				readMust(t, s[:i]+string(c)+s[i+1:])
				readMust(t, s[:i]+s[i+1:])
			}
		}
	}
	r := rand.New(rand.NewSource(1114))
	right, wrong := 0, map[int]int{}
	for range 4000 {
		m := wholeMessage(r)
		m.Fields = m.Fields[:min(len(m.Fields), r.Intn(8))]
		s, _ := printIs(m)
		for range r.Intn(3) {
			s = bentText(r, s)
		}
		if line := readMust(t, s); line == 0 {
			right++
		} else {
			wrong[line]++
		}
	}
	if right < 500 || len(wrong) < 10 {
		t.Errorf("the test had %d right texts, and wrong ones at %v", right, wrong)
	}
}

func bentText(r *rand.Rand, s string) string {
	lines := strings.SplitAfter(s, "\n")
	i, j := r.Intn(len(lines)), r.Intn(len(lines))
	at := r.Intn(len(s) + 1)
	switch r.Intn(8) {
	case 0:
		return s[:at]
	case 1:
		return s[:at] + oneOf(r, "0", "1", ".", ":", "=", "\\", "\n", "A", "\x00") + s[at:]
	case 2:
		return s[:at] + s[min(at+1, len(s)):]
	case 3:
		lines[i], lines[j] = lines[j], lines[i]
	case 4:
		lines[i] += lines[j]
	case 5:
		lines[i] = ""
	case 6:
		lines[i] = "." + lines[i]
	case 7:
		lines[i] = strings.TrimPrefix(lines[i], ".")
	}
	return strings.Join(lines, "")
}
