package seal_test

import (
	stdcipher "crypto/cipher"
	"crypto/des"
	"encoding/hex"
	"math/rand"
	"strings"
	"testing"

	"turnstile/api"
	"turnstile/seal"
)

// Tags, check values and wrapped keys, made with the library's own cipher, are held against the package's.

// Keys of tags, of one and of two halves, and one for the exchange.
const (
	one      = "\x01\x23\x45\x67\x89\xAB\xCD\xEF"
	pair     = "\x7C\xA1\x10\x45\x4A\x1A\x6E\x57\x01\x31\xD9\x61\x9D\xC1\x37\x6E"
	exchange = "an exchange key!"
	noughts  = "\x00\x00\x00\x00\x00\x00\x00\x00"
)

func libraryBlock(key string) stdcipher.Block {
	var b stdcipher.Block
	var err error
	if len(key) == 8 {
		b, err = des.NewCipher([]byte(key))
	} else {
		b, err = des.NewTripleDESCipher([]byte(key + key[:8]))
	}
	if err != nil {
		panic(err)
	}
	return b
}

// encrypted is each block of a text by itself.
func encrypted(key, s string) string {
	b, out := libraryBlock(key), make([]byte, len(s))
	for at := 0; at < len(s); at += 8 {
		b.Encrypt(out[at:], []byte(s[at:at+8]))
	}
	return string(out)
}

func decrypted(key, s string) string {
	b, out := libraryBlock(key), make([]byte, len(s))
	for at := 0; at < len(s); at += 8 {
		b.Decrypt(out[at:], []byte(s[at:at+8]))
	}
	return string(out)
}

// libraryFilled puts one byte at a time behind a text, as the document counts them.
func libraryFilled(method int, s string) string {
	if method == 2 {
		s += "\x80"
	}
	for len(s) == 0 || len(s)%8 != 0 {
		s += "\x00"
	}
	return s
}

func libraryTag(alg, method int, key, s string) string {
	s = libraryFilled(method, s)
	out := make([]byte, len(s))
	stdcipher.NewCBCEncrypter(libraryBlock(key[:8]), make([]byte, 8)).CryptBlocks(out, []byte(s))
	tag := string(out[len(out)-8:])
	if alg == 3 {
		tag = encrypted(key[:8], decrypted(key[8:], tag))
	}
	return tag
}

// checkOf is a key's check value.
func checkOf(key string) string { return encrypted(key, noughts)[:3] }

// bytesOf is a text that is told in sixteenths.
func bytesOf(sixteenths string) string {
	b, err := hex.DecodeString(sixteenths)
	if err != nil {
		panic(err)
	}
	return string(b)
}

func randomText(r *rand.Rand, n int) string {
	b := make([]byte, n)
	r.Read(b)
	return string(b)
}

// keySize is how long an algorithm's keys are.
func keySize(alg int) int {
	if alg == 3 {
		return 16
	}
	return 8
}

// ways are the algorithms with the methods.
func ways() [][2]int { return [][2]int{{1, 1}, {1, 2}, {3, 1}, {3, 2}} }

// numbers are some that may be an algorithm, a method or a slot, and many that may not.
func numbers() []int {
	return []int{1, 2, 3, 0, -1, -2, -3, 4, 5, 31, 32, 33, 127, 255, 256, 257, 259, -256, 1 << 31, 1<<32 + 1, 1<<32 + 3, -1 << 63, 1<<63 - 1}
}

func tagOf(t *testing.T, alg, method int, key, s string) string {
	t.Helper()
	tag, e := seal.Tag(alg, method, key, s)
	if e != api.OK {
		t.Fatalf("4.2: Tag(%d, %d, %x, %x) = %x, %d", alg, method, key, s, tag, e)
	}
	return tag
}

func newSlots(t *testing.T, n int) *seal.Slots {
	t.Helper()
	s, e := seal.NewSlots(n)
	if s == nil || e != api.OK {
		t.Fatalf("4.4: NewSlots(%d) = %v, %d", n, s, e)
	}
	return s
}

func put(t *testing.T, s *seal.Slots, slot, alg, method int, key, exchange string) {
	t.Helper()
	if e := s.Put(slot, alg, method, key, exchange); e != api.OK {
		t.Fatalf("4.5: Put(%d, %d, %d, %x, %x) = %d", slot, alg, method, key, exchange, e)
	}
}

// has asks a slot by its tags what it has.
func has(t *testing.T, promise string, s *seal.Slots, slot, alg, method int, key string, round int) {
	t.Helper()
	for _, text := range []string{"", "a text", "8 bytes.", strings.Repeat("of some blocks, ", 5)} {
		want := libraryTag(alg, method, key, text)
		if got, e := s.Tag(slot, text); got != want || e != api.OK {
			t.Errorf("%s: Tag(%d, %q) = %x, %d, want %x", promise, slot, text, got, e, want)
		}
	}
	if r := s.Round(slot); r != round {
		t.Errorf("%s: Round(%d) = %d, want %d", promise, slot, r, round)
	}
}
