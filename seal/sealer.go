package seal

import (
	"strings"

	"turnstile/api"
	"turnstile/cipher"
)

// The algorithms of tags.
const (
	byKey    = 1 // the last block of a chain
	byHalves = 3 // that block, under two halves of a key
)

// sealer is an algorithm, a method and a key, made ready once for all its tags.
type sealer struct {
	alg, method int
	first       *cipher.Block
	second      *cipher.Block // of byHalves alone
}

func newSealer(alg, method int, key string) (*sealer, api.Errno) {
	if keySize(alg) == 0 || !isMethod(method) {
		return nil, api.ErrArg
	}
	if len(key) != keySize(alg) {
		return nil, api.ErrKey
	}
	k := &sealer{alg: alg, method: method}
	k.first, _ = cipher.New(key[:size]) // a half has a length that New takes
	if alg == byHalves {
		k.second, _ = cipher.New(key[size:])
	}
	return k, api.OK
}

// keySize is how many bytes an algorithm's keys have: 0, if there is no such algorithm.
func keySize(alg int) int {
	switch alg {
	case byKey:
		return size
	case byHalves:
		return 2 * size
	}
	return 0
}

// tag throws the cipher's errors away: all that it hands over is whole blocks.
func (k *sealer) tag(s string) string {
	chain, _ := k.first.Chain(noughts, filled(k.method, s))
	last := chain[len(chain)-size:]
	if k.alg == byHalves {
		last, _ = k.second.Decrypt(last)
		last, _ = k.first.Encrypt(last)
	}
	return strings.Clone(last) // else eight bytes would hold the whole chain in memory
}
