package message_test

import (
	"math/rand"
	"testing"

	"turnstile/api"
	"turnstile/message"
)

func replyMust(t *testing.T, m api.Message, code string) api.Errno {
	t.Helper()
	want, e := replyIs(m, code)
	got, g := message.Reply(m, code)
	if g != e || seen(got) != seen(want) {
		t.Errorf("G6: Reply(%.300s, %q) = %.300s, %d, must be %.300s, %d", seen(m), code, seen(got), g, seen(want), e)
	}
	return e
}

func TestReplyOfTheExamples(t *testing.T) {
	m := of("0100", field(2, "4111"), field(11, "000007"), field(52, "12345678"))
	got, e := message.Reply(m, "14")
	messageIs(t, "G6: Reply", got, of("0110", field(2, "4111"), field(11, "000007"), field(39, "14")))
	if e != api.OK {
		t.Errorf("G6: Reply = %d", e)
	}
	if got, e = message.Reply(m, "1a"); seen(got) != seen(of("")) || e != api.ErrValue {
		t.Errorf("G6: Reply with 1a = %s, %d", seen(got), e)
	}
}

func TestReplyByTypeAndField(t *testing.T) {
	for _, s := range append(allTypes(), "0400", "", "0111", "2100") {
		replyMust(t, of(s), "00")
		replyMust(t, all(s), "05")
		replyMust(t, of(s, field(39, "old")), "Z9")
	}
	for _, f := range all("").Fields {
		replyMust(t, of("0200", f), "00")
		replyMust(t, of("1421", kids(f.Number, nested(3)...)), "00")
		replyMust(t, message.Without(all("0800"), f.Number), "00")
	}
}

func TestReplyByCode(t *testing.T) {
	m := of("0100", field(2, "4111"))
	for a := range 256 {
		for b := range 256 {
			code := string([]byte{byte(a), byte(b)})
			if got, e := message.Reply(m, code); (e == api.OK) != (isCodeByte(a) && isCodeByte(b)) || e != api.OK && e != api.ErrValue || e == api.OK && got.Fields[1].Value != code {
				t.Errorf("G6: Reply with %q = %d, %s", code, e, seen(got))
			}
		}
	}
	for _, code := range []string{"", "0", "000", "0000", "00 ", "É", "00\n", "AZ", "09", "ZZ"} {
		replyMust(t, m, code)
	}
}

func isCodeByte(c int) bool { return c >= 48 && c <= 57 || c >= 65 && c <= 90 }

func TestReplyOfMany(t *testing.T) {
	r := rand.New(rand.NewSource(1109))
	counts := map[api.Errno]int{}
	for _, m := range someMessages(1110, 2500) {
		counts[replyMust(t, m, oneOf(r, "00", "14", "Z9", "91", "1a", "", "001"))]++
	}
	if len(counts) != 4 || counts[api.OK] < 500 {
		t.Errorf("the test had %v only", counts)
	}
}

// TestReplyRefuses: of several errors the first one is told.
func TestReplyRefuses(t *testing.T) {
	for _, m := range []api.Message{of("0110"), of("0110", field(1, "")), of("0400", field(1, "")), of("0100", field(1, "")), of("0100"), of("0100", field(3, ""), field(2, ""))} {
		for _, code := range []string{"00", "0", "aa"} {
			replyMust(t, m, code)
		}
	}
}
