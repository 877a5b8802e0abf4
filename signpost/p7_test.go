package signpost_test

import (
	"math"
	"testing"

	"signpost/api"
)

func TestP7FromAnyIndex(t *testing.T) {
	x := made(t, api.Config{Hints: []int{9}, Entries: 4, Tries: 1, Patience: 1, MaxTtl: 1})
	var sent []api.Packet
	var replies []api.Reply
	for i := range 6 {
		for _, from := range []int{math.MinInt, math.MinInt32, -len(sent), -1, 0} {
			wantSent(t, x, from, sent...)
			wantReplies(t, x, from, replies...)
		}
		for from := range len(sent) + 1 {
			wantSent(t, x, from, sent[from:]...)
			wantReplies(t, x, from, replies[from:]...)
		}
		for _, from := range []int{len(sent) + 1, len(sent) + 2, 1000, math.MaxInt32, math.MaxInt} {
			wantSent(t, x, from)
			wantReplies(t, x, from)
		}
		wantAsk(t, x, question(t, 100-i, "a", 1), i)
		x.Tick()
		sent = append(sent, packet(t, 9, i+1, "a", 1))
		replies = append(replies, failed(t, i, 100-i, "a", 1))
	}
}

// Replies stand in the order in which they came, not in that of the questions.
func TestP7RepliesInTheOrderInWhichTheyCame(t *testing.T) {
	x := made(t, settings(9))
	wantAsk(t, x, question(t, 1, "a", 1), 0)
	wantAsk(t, x, "\x02\x00q-", 1)
	x.Tick()
	wantAsk(t, x, question(t, 3, "b", 1), 2)
	wantAsk(t, x, "\x04\x00q-", 3)
	ticks(x, 6)
	wantReplies(t, x, -1, broken(1, "\x02\x00"), broken(3, "\x04\x00"), failed(t, 0, 1, "a", 1), failed(t, 2, 3, "b", 1))
}

func TestP7NoEntriesWhileNobodyAnswers(t *testing.T) {
	x := made(t, settings(9, 8))
	for i := range 5 {
		wantAsk(t, x, question(t, 1, "a", 1), i)
		ticks(x, 3)
		if entries := x.Entries(); len(entries) != 0 {
			t.Errorf("P7: Entries() = %+v", entries)
		}
	}
}
