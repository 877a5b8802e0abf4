package signpost_test

import (
	"math"
	"testing"

	"signpost/api"
	"signpost/signpost"
)

func wantNone(t *testing.T, c api.Config) {
	t.Helper()
	if x, e := signpost.New(c); x != nil || e != api.ErrArg {
		t.Errorf("P4: New(%+v) = %v, %d, want nil, ErrArg", c, x, e)
	}
}

// bounds are those of the settings that are one number each.
var bounds = []struct {
	name        string
	least, most int
	in          func(c *api.Config) *int
}{
	{"Entries", 4, 64, func(c *api.Config) *int { return &c.Entries }},
	{"Tries", 1, 3, func(c *api.Config) *int { return &c.Tries }},
	{"Patience", 1, 20, func(c *api.Config) *int { return &c.Patience }},
	{"MaxTtl", 1, 1000, func(c *api.Config) *int { return &c.MaxTtl }},
}

func TestP4Hints(t *testing.T) {
	for _, hints := range [][]int{{9}, {0}, {255}, {0, 255}, {7, 7, 7}, {255, 0, 255}} {
		made(t, settings(hints...))
	}
	for _, hints := range [][]int{nil, {}, {1, 2, 3, 4}, make([]int, 1000), {-1}, {256}, {0, -1}, {1, 2, 256}, {256, 1, 2}, {1, math.MaxInt}, {math.MinInt}, {1 << 32}} {
		wantNone(t, settings(hints...))
	}
}

func TestP4Bounds(t *testing.T) {
	for _, b := range bounds {
		for n := b.least; n <= b.most; n++ {
			c := settings(9)
			*b.in(&c) = n
			made(t, c)
		}
		for _, n := range []int{b.least - 1, b.most + 1, 0, -1, -b.most, math.MinInt, math.MaxInt, 1<<32 + b.least} {
			c := settings(9)
			*b.in(&c) = n
			wantNone(t, c)
		}
	}
	wantNone(t, api.Config{})
}

func TestP4AllEdgesAtOnce(t *testing.T) {
	made(t, api.Config{Hints: []int{0}, Entries: 4, Tries: 1, Patience: 1, MaxTtl: 1})
	made(t, api.Config{Hints: []int{255, 0, 255}, Entries: 64, Tries: 3, Patience: 20, MaxTtl: 1000})
}

func TestP4NothingHasHappened(t *testing.T) {
	for _, c := range []api.Config{settings(9), settings(0, 255, 0)} {
		x := made(t, c)
		wantSent(t, x, 0)
		wantReplies(t, x, 0)
		if entries := x.Entries(); len(entries) != 0 {
			t.Errorf("P4: Entries() at the beginning = %+v", entries)
		}
		wantAsk(t, x, question(t, 5, "a", api.Address), 0)
		wantSent(t, x, 0, packet(t, c.Hints[0], 1, "a", api.Address))
	}
}
