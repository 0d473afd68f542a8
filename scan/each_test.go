package scan_test

import (
	"math/rand"
	"runtime"
	"strings"
	"testing"
	"time"

	"turnstile/api"
	"turnstile/message"
	"turnstile/scan"
)

// eachTells holds Each against what Parse tells of each text.
func eachTells(t *testing.T, x *scan.Table, l ...string) {
	t.Helper()
	messages, defects := x.Each(l...)
	if len(messages) != len(l) || len(defects) != len(l) {
		t.Fatalf("13.3: Each of %d texts has %d messages and %d defects", len(l), len(messages), len(defects))
	}
	for i, b := range l {
		m, defect := x.Parse(b)
		if defects[i] != defect || !message.Same(messages[i], m) {
			t.Errorf("13.3: Each of %d texts: of %d, %.200x: %.200v, %v; must be %.200v, %v", len(l), i, b, messages[i], defects[i], m, defect)
		}
	}
}

func TestEachByHand(t *testing.T) {
	x := compiled(t, example()).table
	l, defects := x.Each(short, "0200")
	if len(l) != 2 || !message.Same(l[0], of("0200", field(3, "000000"), field(11, "000042"))) || l[1].MTI != "" || len(l[1].Fields) != 0 {
		t.Errorf("13.3: Each tells the messages %v", l)
	}
	if len(defects) != 2 || defects[0] != (api.Defect{}) || defects[1] != (api.Defect{Code: api.DefShort, At: 4}) {
		t.Errorf("13.3: Each tells the defects %v", defects)
	}
	if l, defects := x.Each(); len(l) != 0 || len(defects) != 0 {
		t.Errorf("13.3: Each of nothing is %v, %v", l, defects)
	}
	eachTells(t, x, "")
	eachTells(t, x, short)
	eachTells(t, x, short, short, track, short[:28], track, strings.Repeat("0", 10000), short)
}

func TestEachOfMany(t *testing.T) {
	r := rand.New(rand.NewSource(1309))
	for range 200 {
		d := rightDialect(r)
		if len(d.Rules) == 0 {
			continue
		}
		x := compiled(t, d).table
		var l []string
		for range r.Intn(60) {
			b, _, _ := x.Build(rightMessage(r, d, oneOf(r, d.Rules...)))
			l = append(l, oneOf(r, b, b, bentBytes(r, b)))
		}
		eachTells(t, x, l...)
	}
	x := compiled(t, rich()).table
	_, parts := full()
	var l []string
	for range 20000 {
		l = append(l, bentBytes(r, strings.Join(parts, "")))
	}
	eachTells(t, x, l...)
}

// TestEachLeavesNobody: whoever read for Each has ended, or is about to.
func TestEachLeavesNobody(t *testing.T) {
	before := runtime.NumGoroutine()
	x := compiled(t, example()).table
	for range 50 {
		x.Each(short, track, "0200", "")
	}
	for range 1000 {
		if runtime.NumGoroutine() <= before {
			return
		}
		time.Sleep(5 * time.Millisecond)
	}
	t.Errorf("13.3: behind Each there are %d goroutines, ahead of it %d", runtime.NumGoroutine(), before)
}
