package signpost_test

import (
	"math/rand"
	"testing"

	"signpost/api"
)

// One question at a time, whose servers say anything, or nothing: there is one
// reply, in time, and not more than MaxSends questions were sent for it.
func TestP8OneReplyInTime(t *testing.T) {
	most := 0
	for seed := range 600 {
		chance := rand.New(rand.NewSource(int64(seed)))
		c := anyConfig(chance)
		d, l := talk(t, c), liar{chance, 30}
		silence := chance.Intn(4)
		for number := range 6 {
			before := len(d.x.Sent(0))
			d.ask(l.name(), 1+chance.Intn(3))
			for now := 0; len(d.x.Replies(0)) == number; now++ {
				if now == api.MaxSends*c.Patience {
					t.Fatalf("seed %d: no reply to question %d after %d ticks", seed, number, now)
				}
				for chance.Intn(4) >= silence && chance.Intn(5) > 0 {
					from, m := l.anyReply(t, d.x.Sent(0))
					d.x.Deliver(api.Packet{Address: from, Bytes: bytesOf(t, m)})
				}
				d.x.Tick()
				if got := len(d.x.Entries()); got > c.Entries {
					t.Fatalf("seed %d: %d entries, where there is room for %d", seed, got, c.Entries)
				}
			}
			lastTold(t, d.x, number)
			sends := len(d.x.Sent(before))
			most = max(most, sends)
			if sends > api.MaxSends {
				t.Fatalf("seed %d: %d sends for one question", seed, sends)
			}
		}
		d.told = 6
		d.sent = len(d.x.Sent(0))
		ticks(d.x, 100)
		d.quiet()
	}
	if most != api.MaxSends {
		t.Errorf("no question came to MaxSends sends, but to %d", most)
	}
}

// The last moment: each of sixteen questions waits for all of its patience.
func TestP8TheLastMoment(t *testing.T) {
	for _, patience := range []int{1, 20} {
		c := patient()
		c.Tries, c.Patience = 3, patience
		d := talk(t, c)
		d.ask("b", api.Server)
		d.sends(9, "b", api.Server)
		d.hears(api.Message{Answer: list(server("b", 1000, "n"))})
		d.tells("b", api.Server, api.Fine, server("b", 1000, "n"))
		d.ask("n", api.Address)
		d.sends(9, "n", api.Address)
		var six []api.Record
		for i := range 6 {
			six = append(six, address("n", 1000, i))
		}
		d.hears(api.Message{Answer: six})
		d.tells("n", api.Address, api.Fine, six...)
		d.ask("a.b", api.Address)
		for i := range 16 {
			d.sends(i/3, "a.b", api.Address)
			ticks(d.x, patience-1)
			d.quiet()
			d.x.Tick()
		}
		d.tells("a.b", api.Address, api.Failed)
	}
}

// Many questions at one time: each has one reply, none has two.
func TestP8ManyQuestions(t *testing.T) {
	for seed := range 40 {
		chance := rand.New(rand.NewSource(int64(seed)))
		c := anyConfig(chance)
		x, l := made(t, c), liar{chance, 30}
		var askedAt []int
		for now := range 300 {
			for chance.Intn(2) == 0 {
				if n, e := x.Ask(question(t, 1, l.name(), 1+chance.Intn(3))); e == api.OK {
					if n != len(askedAt) {
						t.Fatalf("seed %d: question %d has the number %d", seed, len(askedAt), n)
					}
					askedAt = append(askedAt, now)
				}
			}
			for len(x.Sent(0)) > 0 && chance.Intn(4) > 0 {
				from, m := l.anyReply(t, x.Sent(0))
				x.Deliver(api.Packet{Address: from, Bytes: bytesOf(t, m)})
			}
			told := make([]int, len(askedAt))
			for _, r := range x.Replies(0) {
				told[r.Number]++
			}
			for n, at := range askedAt {
				if told[n] > 1 || told[n] == 0 && now-at >= api.MaxSends*c.Patience {
					t.Fatalf("seed %d: at %d question %d, asked at %d, has %d replies", seed, now, n, at, told[n])
				}
			}
			if len(x.Sent(0)) > api.MaxSends*len(askedAt) || len(x.Entries()) > c.Entries {
				t.Fatalf("seed %d: %d sends for %d questions, %d entries", seed, len(x.Sent(0)), len(askedAt), len(x.Entries()))
			}
			x.Tick()
		}
	}
}
