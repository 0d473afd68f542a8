package standin_test

import (
	"testing"

	"turnstile/api"
)

func TestExample(t *testing.T) {
	b := made(t, 1)
	asks(t, b, api.OK, narrow, "card", 100, 0)
	asks(t, b, api.ErrLimit, narrow, "card", 60, 1)
	asks(t, b, api.OK, narrow, "card", 50, 1)
	asks(t, b, api.ErrLimit, narrow, "card", 0, 5)
	asks(t, b, api.OK, narrow, "card", 0, 10)
	uses(t, b, narrow, "card", 10, 2, 50)
	undoes(t, b, true, "card", 50, 1)
	uses(t, b, narrow, "card", 10, 1, 0)
	asks(t, b, api.ErrArg, narrow, "card", 1, 9)
}
