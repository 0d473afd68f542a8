package core

import (
	"testing"

	"turnstile/api"
	"turnstile/scan"
)

// TestStacksAreTheirOwn: since both do the same, which of the two a switch has is seen from within alone.
func TestStacksAreTheirOwn(t *testing.T) {
	d := api.Dialect{Name: "d", MTIEnc: api.ASCII, MapEnc: api.ASCII}
	if _, ok := newStack(d, Tree).(walker); !ok {
		t.Error("24: the stack Tree is another one")
	}
	if _, ok := newStack(d, Scan).(*scan.Table); !ok {
		t.Error("24: the stack Scan is another one")
	}
}
