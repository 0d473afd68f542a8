package frame_test

import (
	"cmp"
	"fmt"
	"math"
	"math/rand"
	"runtime"
	"slices"
	"strings"
	"sync"
	"testing"
	"unsafe"

	"turnstile/api"
	"turnstile/frame"
)

// What holds of all calls (P1 to P5).

func someTexts() []string {
	l := []string{"", "0", "0001", "0001a", "٠٠٠١", "\x00\x02ab", "\xFF", strings.Repeat("\xFF", 100000), strings.Repeat("\x00", 100000), strings.Repeat("0", 100000), strings.Repeat("\x00\x02", 50000), strings.Repeat("\x00\x01a", 30000)}
	r := rand.New(rand.NewSource(1408))
	for range 10 {
		l = append(l, anyBytes(r, r.Intn(60)))
		for _, header := range kinds {
			l = append(l, bentStream(r, header, 200, 8))
		}
	}
	return l
}

// answers is what all calls answer, as texts.
func answers() []string {
	var l []string
	for header := -1; header < 7; header++ {
		for _, most := range []int{math.MinInt, 0, 1, 200, 9999, 10000, math.MaxInt} {
			s, e := frame.New(header, most)
			for _, b := range someTexts() {
				w, code := frame.Wrap(header, most, b)
				l = append(l, fmt.Sprintf("%d %q %d", e, w, code))
				if s == nil {
					continue
				}
				messages, code := s.Feed([]byte(b))
				l = append(l, fmt.Sprintf("%q %d %d %d", messages, code, s.Waits(), s.Idle()))
				if len(b)%3 == 0 {
					s.Reset()
				}
			}
			messages, faults := frame.Split(header, most, someTexts()...)
			l = append(l, fmt.Sprintf("%q %v", messages, faults))
		}
	}
	return l
}

// TestSameAgain: every call answers, and the same arguments give the same answers, whatever was asked between, and by whom.
func TestSameAgain(t *testing.T) {
	first := answers()
	var group sync.WaitGroup
	for range 4 {
		group.Go(func() {
			if !slices.Equal(first, answers()) {
				t.Error("P4: the same calls answer another thing once more")
			}
		})
	}
	group.Wait()
}

// TestStreamsAreTheirOwn: what one is fed does not show in another.
func TestStreamsAreTheirOwn(t *testing.T) {
	r := rand.New(rand.NewSource(1409))
	var all []*both
	for i := range 12 {
		all = append(all, newBoth(t, kinds[i%4], 20+i))
	}
	for range 2000 {
		x := oneOf(r, all...)
		for _, b := range pieces(r, bentStream(r, x.header, x.most, 1)) {
			x.feed(t, b)
			oneOf(r, all...).stands(t)
		}
		if len(x.stream) > 200 {
			x.reset(t)
		}
	}
}

// span is memory that a list or a text has, spare room too.
type span struct{ from, to uintptr }

func listSpan[T any](l []T) span {
	var one T
	from := uintptr(unsafe.Pointer(unsafe.SliceData(l)))
	return span{from, from + uintptr(cap(l))*unsafe.Sizeof(one)}
}

func textSpan(s string) span {
	from := uintptr(unsafe.Pointer(unsafe.StringData(s)))
	return span{from, from + uintptr(len(s))}
}

// shared tells whether two of some spans have memory in common.
func shared(l []span) bool {
	l = slices.Clone(l)
	slices.SortFunc(l, func(a, b span) int { return cmp.Compare(a.from, b.from) })
	for i := 1; i < len(l); i++ {
		if l[i].from < l[i-1].to {
			return true
		}
	}
	return false
}

// kept is what was answered, so that its memory is nobody else's meanwhile.
type kept struct {
	all   []any
	spans []span
}

func (k *kept) text(s string) { k.all, k.spans = append(k.all, s), append(k.spans, textSpan(s)) }

func (k *kept) texts(l []string) {
	k.all = append(k.all, l)
	if cap(l) > 0 {
		k.spans = append(k.spans, listSpan(l))
	}
	for _, s := range l {
		k.text(s)
	}
}

func TestAnswersAreNewMemory(t *testing.T) {
	for _, header := range kinds {
		var k kept
		b := strings.Repeat(framed(header, "abcd")+framed(header, strings.Repeat("e", 500)), 5)
		k.text(b)
		bytes := []byte(b)
		k.all, k.spans = append(k.all, bytes), append(k.spans, listSpan(bytes))
		s := madeStream(t, header, 500)
		for range 3 {
			l, _ := s.Feed(bytes)
			k.texts(l)
			for c := range slices.Chunk(bytes, 7) {
				l, _ := s.Feed(c)
				k.texts(l)
			}
			lists, faults := frame.Split(header, 500, b, b, b)
			k.all, k.spans = append(k.all, lists, faults), append(k.spans, listSpan(lists), listSpan(faults))
			for _, l := range lists {
				k.texts(l)
			}
			w, _ := frame.Wrap(header, 500, "abcd")
			k.text(w)
		}
		if shared(k.spans) {
			t.Errorf("P3: kind %d: what is answered is memory that is another's", header)
		}
		runtime.KeepAlive(k)
	}
}

// TestNothingIsWrittenInto: neither what is handed in nor what stands behind it.
func TestNothingIsWrittenInto(t *testing.T) {
	for _, header := range kinds {
		b := framed(header, "abc") + head(header, 0) + framed(header, "defgh") + head(header, 7)
		for n := range len(b) + 1 {
			room := []byte(b + "behind")
			s := madeStream(t, header, 7)
			s.Feed(room[:n])
			s.Feed(room[n:len(b)])
			s.Reset()
			s.Feed(room[:len(b)])
			s.Feed(room[:len(b)])
			if string(room) != b+"behind" {
				t.Errorf("P3: kind %d: what was fed became %q", header, room)
			}
		}
		streams := []string{b, "", "xxxx", b[:3], "behind", "behind"}
		l, _ := frame.Split(header, 7, streams[:4]...)
		for _, messages := range l {
			for i := range messages[:cap(messages)] {
				messages[:cap(messages)][i] = "scribbled"
			}
		}
		if !slices.Equal(streams, []string{b, "", "xxxx", b[:3], "behind", "behind"}) {
			t.Errorf("P3: kind %d: what was split became %q", header, streams)
		}
	}
}

// TestLaterChangesDoNotShow: what was answered, and what waits, stays, whatever becomes of what was handed in or answered.
func TestLaterChangesDoNotShow(t *testing.T) {
	for _, header := range kinds {
		b := framed(header, "abc") + head(header, 0) + framed(header, "defgh")
		for n := range len(b) + 1 {
			s := madeStream(t, header, 7)
			var all []string
			for _, piece := range []string{b[:n], b[n:], b[:n], b[n:]} {
				fed := []byte(piece)
				l, _ := s.Feed(fed)
				all = append(all, l...)
				clear(fed)
				clear(l[:cap(l)])
			}
			if !slices.Equal(all, []string{"abc", "defgh", "abc", "defgh"}) || s.Idle() != 2 || s.Waits() != 0 {
				t.Errorf("P3: kind %d: of %q in two pieces, the first of %d bytes, twice, came %q, Idle %d, Waits %d", header, b, n, all, s.Idle(), s.Waits())
			}
		}
		bytes := []byte(b)
		handed := unsafe.String(&bytes[0], len(bytes))
		l, _ := frame.Split(header, 7, handed)
		w, _ := frame.Wrap(header, 100, handed)
		clear(bytes)
		if !slices.Equal(l[0], []string{"abc", "defgh"}) || w != framed(header, b) {
			t.Errorf("P3: kind %d: what was answered became %q, %q", header, l, w)
		}
	}
}

// heap is how many bytes are in use.
func heap() int {
	var m runtime.MemStats
	runtime.GC()
	runtime.ReadMemStats(&m)
	return int(m.HeapAlloc)
}

// TestNoMoreIsKept: a stream that is broken keeps nothing of what it is fed, and one that is not only what waits.
func TestNoMoreIsKept(t *testing.T) {
	broken, going := madeStream(t, api.HeadFour, 9999), madeStream(t, api.HeadFour, 9999)
	broken.Feed([]byte("x000"))
	frames := strings.Repeat("9999"+strings.Repeat("m", 9999), 100)
	before := heap()
	for range 50 {
		broken.Feed([]byte(frames))
		going.Feed([]byte(frames))
	}
	if more := heap() - before; more > 10_000_000 {
		t.Errorf("F2: behind 100 MB two streams keep %d bytes", more)
	}
	runtime.KeepAlive(broken)
	runtime.KeepAlive(going)
}

// TestNothingOfEitherKind: lists of nothing, nil or empty, count alike.
func TestNothingOfEitherKind(t *testing.T) {
	for _, header := range kinds {
		b := framed(header, "abc") + head(header, 0) + head(header, 7)
		for n := range len(b) + 1 {
			s := madeStream(t, header, 6)
			ahead, code := s.Feed([]byte(b[:n]))
			waits, idle := s.Waits(), s.Idle()
			for _, nothing := range [][]byte{nil, {}} {
				if l, e := s.Feed(nothing); len(l) != 0 || e != code || s.Waits() != waits || s.Idle() != idle {
					t.Errorf("F2: kind %d, behind %q and %q: Feed of nothing is %q, %d", header, b[:n], ahead, l, e)
				}
			}
		}
		for _, nothing := range [][]string{nil, {}} {
			if l, e := frame.Split(header, 6, nothing...); len(l) != 0 || len(e) != 0 {
				t.Errorf("F5: Split of nothing is %q, %v", l, e)
			}
		}
	}
}
