package session_test

import (
	"fmt"
	"math/rand"
	"runtime"
	"slices"
	"strings"
	"sync"
	"testing"
	"unsafe"

	"turnstile/api"
	"turnstile/session"
)

// What holds of all calls (P1 to P5).

// answers is what many calls say, as texts.
func answers() []string {
	var l []string
	r := rand.New(rand.NewSource(1606))
	for role := -1; role < 4; role++ {
		for echo := -1; echo < 5; echo++ {
			for wait := -1; wait < 5; wait++ {
				s, e := session.New(role, echo, wait)
				l = append(l, fmt.Sprint(s != nil, e))
				for i := 0; s != nil && i < 200; i++ {
					l = append(l, fmt.Sprintf("%+v %d %v", tell(s, anyTold(r)), s.State(), s.Ready()))
				}
			}
		}
	}
	return l
}

// TestSameAgain: every call answers, and the same calls answer the same, whatever was asked between, and by whom.
func TestSameAgain(t *testing.T) {
	first := answers()
	var group sync.WaitGroup
	for range 4 {
		group.Go(func() {
			if !slices.Equal(first, answers()) {
				t.Error("P4: the same calls answer another thing once more")
			}
		})
	}
	group.Wait()
}

// TestSessionsAreTheirOwn: what one is told does not show in another.
func TestSessionsAreTheirOwn(t *testing.T) {
	r := rand.New(rand.NewSource(1607))
	var all []*both
	for i := range 12 {
		all = append(all, newBoth(t, roles[i%2], i%5, 1+i%3))
	}
	for range 50000 {
		oneOf(r, all...).run(t, []told{anyTold(r)})
		if b := oneOf(r, all...); !b.stands() {
			t.Fatalf("P4: a session of which the reading is %+v is in the state %d", b.m, b.s.State())
		}
	}
}

// TestCodesAreNewMemory: what becomes of the bytes of a code later does not show in the answer.
func TestCodesAreNewMemory(t *testing.T) {
	for _, code := range slices.Concat(codes, odd) {
		if code == "" {
			continue
		}
		everywhere(t, func(s *session.Session, role, state int) {
			b := []byte(code)
			want, _ := wantAsked(role, state, code)
			says := s.Asked(unsafe.String(&b[0], len(b)))
			clear(b)
			if says != want {
				t.Errorf("P3: what was said to %q became %+v", code, says)
			}
			if says.Code != "" && unsafe.StringData(says.Code) == &b[0] {
				t.Errorf("P3: the code said to %q is the memory that was handed in", code)
			}
			b = []byte(code)
			s.Answered(unsafe.String(&b[0], len(b)), unsafe.String(&b[0], len(b)))
			if string(b) != code {
				t.Errorf("P3: a code became %q", b)
			}
		})
	}
}

// heap is how many bytes are in use.
func heap() int {
	var m runtime.MemStats
	runtime.GC()
	runtime.ReadMemStats(&m)
	return int(m.HeapAlloc)
}

// TestNothingIsKept: of texts that were handed in.
func TestNothingIsKept(t *testing.T) {
	s := made(t, api.Issuer, 3, 2)
	s.Up()
	before := heap()
	for range 50 {
		long := strings.Repeat("3", 1_000_000)
		s.Asked(long)
		s.Answered(long, long)
	}
	if more := heap() - before; more > 500_000 {
		t.Errorf("P3: behind 50 MB of codes a session keeps %d bytes", more)
	}
	runtime.KeepAlive(s)
}
