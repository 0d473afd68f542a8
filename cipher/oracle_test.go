package cipher_test

import (
	stdcipher "crypto/cipher"
	"crypto/des"
	"encoding/hex"
	"math/rand"
	"testing"

	"turnstile/api"
	"turnstile/cipher"
)

// The library's own cipher of FIPS 46-3 is held against the package's.

func libraryBlock(t *testing.T, key string) stdcipher.Block {
	t.Helper()
	var b stdcipher.Block
	var err error
	switch len(key) {
	case 8:
		b, err = des.NewCipher([]byte(key))
	case 16:
		b, err = des.NewTripleDESCipher([]byte(key + key[:8]))
	default:
		b, err = des.NewTripleDESCipher([]byte(key))
	}
	if err != nil {
		t.Fatal(err)
	}
	return b
}

func libraryEncrypt(t *testing.T, key, s string) string {
	b, out := libraryBlock(t, key), make([]byte, len(s))
	for at := 0; at < len(s); at += 8 {
		b.Encrypt(out[at:], []byte(s[at:at+8]))
	}
	return string(out)
}

func libraryDecrypt(t *testing.T, key, s string) string {
	b, out := libraryBlock(t, key), make([]byte, len(s))
	for at := 0; at < len(s); at += 8 {
		b.Decrypt(out[at:], []byte(s[at:at+8]))
	}
	return string(out)
}

func libraryChain(t *testing.T, key, first, s string) string {
	out := make([]byte, len(s))
	stdcipher.NewCBCEncrypter(libraryBlock(t, key), []byte(first)).CryptBlocks(out, []byte(s))
	return string(out)
}

func libraryUnchain(t *testing.T, key, first, s string) string {
	out := make([]byte, len(s))
	stdcipher.NewCBCDecrypter(libraryBlock(t, key), []byte(first)).CryptBlocks(out, []byte(s))
	return string(out)
}

// bytesOf is a text that is told in sixteenths.
func bytesOf(sixteenths string) string {
	b, err := hex.DecodeString(sixteenths)
	if err != nil {
		panic(err)
	}
	return string(b)
}

func ready(t *testing.T, key string) *cipher.Block {
	t.Helper()
	b, e := cipher.New(key)
	if b == nil || e != api.OK {
		t.Fatalf("3.1: New(%x) = %v, %d", key, b, e)
	}
	return b
}

func randomText(r *rand.Rand, n int) string {
	b := make([]byte, n)
	r.Read(b)
	return string(b)
}

// someKeys are edges and such as chance makes, of each length.
func someKeys() []string {
	keys := []string{}
	for _, n := range []int{8, 16, 24} {
		for _, c := range []byte{0, 1, 0x7F, 0x80, 0xAA, 0xFE, 0xFF} {
			b := make([]byte, n)
			for i := range b {
				b[i] = c
			}
			keys = append(keys, string(b))
		}
	}
	r := rand.New(rand.NewSource(3))
	for range 60 {
		keys = append(keys, randomText(r, 8), randomText(r, 16), randomText(r, 24))
	}
	return keys
}
