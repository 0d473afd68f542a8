package message_test

import (
	"strings"
	"testing"

	"turnstile/api"
	"turnstile/message"
)

func printMust(t *testing.T, m api.Message) api.Errno {
	t.Helper()
	want, e := printIs(m)
	if got, g := message.Print(m); got != want || g != e {
		t.Errorf("G9: Print(%.300s) = %.300q, %d, must be %.300q, %d", seen(m), got, g, want, e)
	}
	return e
}

// printed is the chapter's example.
func printed() (api.Message, string) {
	return of("0100", field(2, "4111"), kids(55, leaf(40785, "\x01\\"), inner(112, leaf(80, "a")))), "0100\n2=4111\n55:\n.40785=\\01\\5C\n.112:\n..80=a\n"
}

func TestPrintOfTheExample(t *testing.T) {
	m, want := printed()
	if got, e := message.Print(m); got != want || e != api.OK {
		t.Errorf("G9: Print = %q, %d, must be %q", got, e, want)
	}
}

// TestPrintOfEachByte: the forms of all bytes stand here by themselves.
func TestPrintOfEachByte(t *testing.T) {
	const sixteen = "0123456789ABCDEF"
	for c := range 256 {
		want := "\\" + sixteen[c/16:c/16+1] + sixteen[c%16:c%16+1]
		if strings.Contains(" !\"#$%&'()*+,-./0123456789:;<=>?@ABCDEFGHIJKLMNOPQRSTUVWXYZ[]^_`abcdefghijklmnopqrstuvwxyz{|}~", string(rune(c))) {
			want = string(rune(c))
		}
		v := string([]byte{byte(c)})
		m := of("0100", field(2, v), kids(55, leaf(1, v), inner(2, leaf(3, "a"+v+v))))
		text := "0100\n2=" + want + "\n55:\n.1=" + want + "\n.2:\n..3=a" + want + want + "\n"
		if got, e := message.Print(m); got != text || e != api.OK {
			t.Errorf("G9: Print(%s) = %q, %d, must be %q", seen(m), got, e, text)
		}
		if got, e, line := message.Read(text); seen(got) != seen(m) || e != api.OK || line != 0 {
			t.Errorf("G10: Read(%q) = %s, %d, %d", text, seen(got), e, line)
		}
	}
}

func TestPrintOfEdges(t *testing.T) {
	for _, m := range []api.Message{
		of("0100"), all("1430"), of("0100", field(2, ""), field(128, "")), of("0100", field(2, "é\xC3\n=:.")),
		of("0100", kids(55, nested(8)...), kids(56, nested(8)...), field(57, "x")), of("0100", kids(55, leaves(500)...)), of("0100", kids(55, inner(0, append(nested(6), leaf(1<<63-1, ""))...))),
		of("0100", api.Field{Number: 55, Value: "x", Kids: []api.Node{}}, kids(56, api.Node{Tag: 1, Value: "y", Kids: []api.Node{}})),
		of("0400"), of(""), of("0400", field(1, "")), of("0100", field(1, "")), of("0100", field(3, ""), field(2, "")), of("0100", kids(55, nested(9)...)), of("0100", kids(55, leaves(501)...)), of("0100", kids(55, leaf(-1, ""))), of("0100\n"),
	} {
		printMust(t, m)
	}
}

func TestPrintOfMany(t *testing.T) {
	counts := map[api.Errno]int{}
	for _, m := range someMessages(1113, 2500) {
		counts[printMust(t, m)]++
	}
	if len(counts) != 3 || counts[api.OK] < 1000 {
		t.Errorf("the test had %v only", counts)
	}
}
