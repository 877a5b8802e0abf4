package signpost_test

import (
	"math/rand"
	"testing"

	"signpost/api"
	"signpost/signpost"
)

// timeLeft tells for how long a reply holds: by its ttls, and, where it ends
// with nothing, by the entry that says so.
func timeLeft(t *testing.T, x *signpost.Resolver, now int, m api.Message) int {
	t.Helper()
	left, name := 1000, m.Name
	for _, r := range m.Answer {
		left = min(left, r.Ttl)
		if m.Type != api.Alias && r.Type == api.Alias {
			name = r.Target
		}
	}
	if n := len(m.Answer); n > 0 && m.Answer[n-1].Type == m.Type {
		return left
	}
	kind := m.Type
	if m.Code == api.Unknown {
		kind = 0
	}
	for _, e := range x.Entries() {
		if e.Name == name && e.Type == kind && len(e.Records) == 0 {
			return min(left, e.Until-now)
		}
	}
	t.Fatalf("P12: nothing is remembered of %+v", m)
	return 0
}

// What was told is told again at each tick, with less time left, and nothing
// is sent; when its time is over, something is.
func TestP12WhatWasToldIsToldAgain(t *testing.T) {
	again := make([]int, 4)
	for seed := range 150 {
		chance := rand.New(rand.NewSource(int64(seed)))
		c := api.Config{Hints: []int{rootAddress}, Entries: 64, Tries: 3, Patience: 20, MaxTtl: []int{3, 9, 1000}[chance.Intn(3)]}
		x, w := made(t, c), newRealm(chance, 12)
		sent, number, now := 0, 0, 0
		ask := func(name string, kind int) api.Message {
			wantAsk(t, x, question(t, clientID, name, kind), number)
			number++
			return api.Message{Name: name, Type: kind}
		}
		for range 12 {
			// Others are asked for as well, without running out of room.
			ask(w.anyName(0, 3), 1+chance.Intn(3))
			sent = w.settle(t, x, sent)
			asked := ask(w.anyName(0, 3), 1+chance.Intn(3))
			sent = w.settle(t, x, sent)
			first := lastTold(t, x, number-1)
			if first.Code == api.Failed {
				continue
			}
			for left := timeLeft(t, x, now, first); left > 0; left-- {
				ask(asked.Name, asked.Type)
				again[first.Code]++
				wantSent(t, x, sent)
				if got := lastTold(t, x, number-1); !sameMessage(got, first) {
					t.Fatalf("P12: seed %d: told is %+v, want %+v", seed, got, first)
				}
				x.Tick()
				now++
				for i := range first.Answer {
					first.Answer[i].Ttl--
				}
			}
			ask(asked.Name, asked.Type)
			if len(x.Sent(sent)) == 0 {
				t.Errorf("P12: seed %d: when its time is over, nothing is sent for %+v", seed, first)
			}
			sent = w.settle(t, x, sent)
		}
		if len(x.Entries()) == c.Entries {
			t.Fatalf("seed %d: there is not room for all entries", seed)
		}
	}
	if again[api.Fine] < 1000 || again[api.Unknown] < 500 {
		t.Errorf("too little was told again: of codes %v", again)
	}
}

// What is said along the way does not take the place of what was told.
func TestP12ToldAgainThoughOthersSpeakOfIt(t *testing.T) {
	d := talk(t, patient())
	d.ask("a.b", api.Address)
	d.sends(9, "a.b", api.Address)
	other := d.last
	d.ask("b", api.Server)
	d.sends(9, "b", api.Server)
	d.hears(api.Message{Answer: list(server("b", 9, "n.b"))})
	d.tells("b", api.Server, api.Fine, server("b", 9, "n.b"))
	d.ask("n.b", api.Address)
	d.sends(9, "n.b", api.Address)
	d.hears(api.Message{Answer: list(address("n.b", 9, 7))})
	d.tells("n.b", api.Address, api.Fine, address("n.b", 9, 7))
	d.x.Tick()
	d.x.Deliver(replyTo(t, other, api.Message{Servers: list(server("b", 50, "n.b"), server("b", 50, "m.b")), More: list(address("n.b", 50, 6), address("m.b", 50, 5))}))
	d.sends(7, "a.b", api.Address)
	d.ask("b", api.Server)
	d.tells("b", api.Server, api.Fine, server("b", 8, "n.b"))
	d.ask("n.b", api.Address)
	d.tells("n.b", api.Address, api.Fine, address("n.b", 8, 7))
}

func TestP12AliasesAndRecordsToldAgain(t *testing.T) {
	d := talk(t, patient())
	d.ask("a", api.Address)
	d.sends(9, "a", api.Address)
	d.hears(api.Message{Answer: list(alias("a", 6, "b"))})
	d.sends(9, "b", api.Address)
	d.x.Tick()
	d.hears(api.Message{Answer: list(address("b", 9, 1), address("b", 8, 2))})
	for now := 1; now < 6; now++ {
		d.tells("a", api.Address, api.Fine, alias("a", 6-now, "b"), address("b", 8-now, 1), address("b", 8-now, 2))
		d.x.Tick()
		d.ask("a", api.Address)
	}
	d.sends(9, "a", api.Address)
	// What has not run out is still told.
	d.ask("b", api.Address)
	d.tells("b", api.Address, api.Fine, address("b", 2, 1), address("b", 2, 2))
}
