package signpost_test

import (
	"math/rand"
	"slices"
	"testing"

	"signpost/api"
	"signpost/signpost"
)

// chronicle knows what was so in a realm, and up to which time.
type chronicle struct {
	realms []*realm
	until  []int // how long each was so; the last one still is
}

func (c *chronicle) note(now int, w *realm) {
	if len(c.realms) > 0 {
		c.until[len(c.until)-1] = now
	}
	c.realms = append(c.realms, w.copied())
	c.until = append(c.until, 1<<30)
}

// wasSo tells whether something holds that was so at a time that lies no
// longer ago than its ttl, less what is still left of it.
func (c *chronicle) wasSo(now, left int, holds func(w *realm) (ttl int, ok bool)) bool {
	for i, w := range c.realms {
		if ttl, ok := holds(w); ok && now+left <= min(c.until[i], now)+ttl {
			return true
		}
	}
	return false
}

func smallestTtl(most int, set []api.Record) int {
	for _, r := range set {
		most = min(most, r.Ttl)
	}
	return most
}

// checkFresh goes along a reply: its aliases, and its end.
func (c *chronicle) checkFresh(t *testing.T, now, maxTtl int, m api.Message) {
	t.Helper()
	name, rest := m.Name, m.Answer
	isSet := func(kind int, records []api.Record) bool {
		f := fact{name, kind}
		return c.wasSo(now, records[0].Ttl, func(w *realm) (int, bool) {
			set := firstSix(w.sets[f])
			return smallestTtl(maxTtl, set), slices.Equal(withoutTtls(set), withoutTtls(records))
		})
	}
	for m.Type != api.Alias && len(rest) > 0 && rest[0].Type == api.Alias {
		if rest[0].Name != name || !isSet(api.Alias, rest[:1]) {
			t.Errorf("P9: at %d the alias %+v is told that was not so, of %+v", now, rest[0], m)
		}
		name, rest = rest[0].Target, rest[1:]
	}
	if len(rest) > 0 {
		if m.Code != api.Fine || rest[0].Name != name || !isSet(m.Type, rest) {
			t.Errorf("P9: at %d the records %+v are told that were not so, of %+v", now, rest, m)
		}
		return
	}
	nothing := func(w *realm) (int, bool) {
		isThere := len(w.sets[fact{name, m.Type}]) > 0 || len(w.sets[fact{name, api.Alias}]) > 0
		return min(maxTtl, w.bounds[w.zoneOf(name)]), !isThere && w.exists(name) == (m.Code == api.Fine)
	}
	if !c.wasSo(now, 1, nothing) {
		t.Errorf("P9: at %d it is told that there is nothing of %q, which was not so, of %+v", now, name, m)
	}
}

// letter is a question on its way to a server, or the reply to it.
type letter struct {
	packet  api.Packet
	isReply bool
	at      int // when it arrives
}

// post brings letters, each in its own time, and loses some.
type post struct {
	t       *testing.T
	w       *realm
	x       *signpost.Resolver
	chance  *rand.Rand
	slow    int
	letters []letter
	sent    int // how many questions were taken up
}

func (p *post) bring(now int) {
	for moved := true; moved; {
		moved = false
		for _, q := range p.x.Sent(p.sent) {
			p.sent++
			if p.chance.Intn(12) > 0 {
				p.letters = append(p.letters, letter{packet: q, at: now + p.chance.Intn(p.slow)})
			}
		}
		waiting := p.letters
		p.letters = nil
		for _, l := range waiting {
			if l.at > now {
				p.letters = append(p.letters, l)
				continue
			}
			moved = true
			p.arrive(now, l)
		}
	}
}

// arrive lets a server say what is so now; what it says may need its time.
func (p *post) arrive(now int, l letter) {
	if l.isReply {
		p.x.Deliver(l.packet)
		return
	}
	p.letters = append(p.letters, letter{p.w.answers(p.t, l.packet), true, now + p.chance.Intn(p.slow)})
}

// A world that changes at all times, servers that answer late or never, and
// many questions: what is told was so, and not too long ago.
func TestP9WhatIsToldIsFresh(t *testing.T) {
	codes := make([]int, 4)
	for seed := range 150 {
		chance := rand.New(rand.NewSource(int64(seed)))
		settings := api.Config{Hints: []int{rootAddress}, Entries: []int{8, 64}[chance.Intn(2)], Tries: 1 + chance.Intn(3), Patience: 3 + chance.Intn(5), MaxTtl: []int{4, 12, 1000}[chance.Intn(3)]}
		x, w, c := made(t, settings), newRealm(chance, []int{6, 20}[chance.Intn(2)]), &chronicle{}
		p := &post{t: t, w: w, x: x, chance: chance, slow: 1 + chance.Intn(4)}
		told := 0
		for now := range 120 {
			c.note(now, w)
			for range chance.Intn(4) {
				w.change()
				c.note(now, w)
			}
			if chance.Intn(8) == 0 {
				w.moveZone()
				c.note(now, w)
			}
			for range chance.Intn(4) {
				x.Ask(question(t, clientID, w.anyName(0, 3), 1+chance.Intn(3)))
			}
			p.bring(now)
			for _, r := range x.Replies(told) {
				told++
				m, e := signpost.Decode(r.Bytes)
				if e != api.OK || !m.Reply || m.ID != clientID {
					t.Fatalf("P9: seed %d: the reply is %q", seed, r.Bytes)
				}
				codes[m.Code]++
				if m.Code != api.Failed {
					c.checkFresh(t, now, settings.MaxTtl, m)
				}
			}
			x.Tick()
		}
	}
	if codes[api.Fine] < 1000 || codes[api.Unknown] < 1000 {
		t.Errorf("too few replies: of codes %v", codes)
	}
}

// What is told at the last tick at which it may be, and not at the next one.
func TestP9UpToTheLastTick(t *testing.T) {
	for _, c := range []struct {
		said api.Message
		code int
		told []api.Record
	}{
		{api.Message{Answer: list(address("a", 9, 1), address("a", 4, 2))}, api.Fine, list(address("a", 1, 1), address("a", 1, 2))},
		{api.Message{Answer: list(address("a", 1000, 1))}, api.Fine, list(address("a", 1, 1))},
		{api.Message{Servers: list(bound("", 4))}, api.Fine, nil},
		{api.Message{Servers: list(bound("", 1000))}, api.Fine, nil},
		{api.Message{Code: api.Unknown, Servers: list(bound("", 4), bound("", 1))}, api.Unknown, nil},
	} {
		settings := patient()
		settings.MaxTtl = 4
		d := talk(t, settings)
		d.ask("a", api.Address)
		d.sends(9, "a", api.Address)
		ticks(d.x, 3)
		d.hears(c.said)
		d.tells("a", api.Address, c.code, c.told...)
		d.ask("a", api.Address)
		d.tells("a", api.Address, c.code, c.told...)
		d.x.Tick()
		d.ask("a", api.Address)
		d.sends(9, "a", api.Address)
	}
}
