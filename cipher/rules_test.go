package cipher_test

import (
	"math/rand"
	"strings"
	"testing"
	"unsafe"

	"turnstile/api"
	"turnstile/cipher"
)

// TestEveryCallAnswers: no call panics, and beside an error there is nothing.
func TestEveryCallAnswers(t *testing.T) {
	r := rand.New(rand.NewSource(42))
	texts := []string{}
	for n := range 34 {
		texts = append(texts, randomText(r, n), strings.Repeat("\xFF", n))
	}
	b := ready(t, "any key.")
	for _, s := range texts {
		k, e := cipher.New(s)
		if (e == api.OK) != (k != nil) {
			t.Errorf("P2: New(%x) = %v, %d", s, k, e)
		}
		if k == nil {
			k = b
		}
		cipher.Odd(s)
		cipher.Weak(s)
		nothingBeside(t, "Check", s, cipher.Check)
		nothingBeside(t, "Encrypt", s, k.Encrypt)
		nothingBeside(t, "Decrypt", s, k.Decrypt)
		for _, x := range texts {
			nothingBeside(t, "Chain", s, func(s string) (string, api.Errno) { return k.Chain(x, s) })
			nothingBeside(t, "Unchain", s, func(s string) (string, api.Errno) { return k.Unchain(x, s) })
			nothingBeside(t, "Xor", s, func(s string) (string, api.Errno) { return cipher.Xor(x, s) })
		}
	}
}

func nothingBeside(t *testing.T, name, s string, call func(string) (string, api.Errno)) {
	t.Helper()
	if got, e := call(s); e != api.OK && got != "" {
		t.Errorf("P2: %s(%x) = %x, %d", name, s, got, e)
	}
}

// TestAnswersAreNewMemory: also where what comes is, byte by byte, what was handed in.
func TestAnswersAreNewMemory(t *testing.T) {
	b := ready(t, "any key.")
	odd := strings.Clone("\x01\x02\x04\x07")
	noughts := string(make([]byte, 16))
	plain := strings.Clone("a block!another!")
	first := strings.Clone("firstone")
	apart(t, "Odd", cipher.Odd(odd), odd)
	s, _ := cipher.Xor(plain, noughts)
	apart(t, "Xor", s, plain, noughts)
	s, _ = b.Encrypt(plain)
	apart(t, "Encrypt", s, plain)
	s, _ = b.Decrypt(plain)
	apart(t, "Decrypt", s, plain)
	s, _ = b.Chain(first, plain)
	apart(t, "Chain", s, plain, first)
	s, _ = b.Unchain(first, plain)
	apart(t, "Unchain", s, plain, first)
	one, _ := cipher.Check(plain)
	two, _ := cipher.Check(plain)
	apart(t, "Check", one, two, plain)
}

func apart(t *testing.T, name, got string, others ...string) {
	t.Helper()
	from := uintptr(unsafe.Pointer(unsafe.StringData(got)))
	for _, o := range others {
		at := uintptr(unsafe.Pointer(unsafe.StringData(o)))
		if from < at+uintptr(len(o)) && at < from+uintptr(len(got)) {
			t.Errorf("P3: %s answers memory that is another's: %x, %x", name, got, o)
		}
	}
}

// TestSameAgain: a key keeps nothing of what was done with it, and keys nothing of one another.
func TestSameAgain(t *testing.T) {
	const first, s = "firstone", "a block!another!"
	b := ready(t, "sixteen bytes, A")
	x, _ := b.Chain(first, s)
	u, _ := b.Unchain(first, s)
	other := ready(t, "another ")
	other.Chain(s[:8], first)
	b.Chain(s[8:], first+s)
	b.Unchain("short", s)
	b.Encrypt("no block")
	b.Decrypt("none")
	if again, e := b.Chain(first, s); again != x || e != api.OK {
		t.Errorf("P4: Chain once more = %x, %d, first %x", again, e, x)
	}
	if again, e := b.Unchain(first, s); again != u || e != api.OK {
		t.Errorf("P4: Unchain once more = %x, %d, first %x", again, e, u)
	}
}
