package signpost_test

import (
	"math/rand"
	"slices"
	"testing"

	"signpost/api"
	"signpost/signpost"
)

const (
	evilZone    = "e"
	evilAddress = 5
)

// slander is what a liar says that knows all names of a realm, and its own.
type slander struct {
	liar
	w *realm
}

func (s slander) name() string {
	if s.chance.Intn(3) == 0 {
		return []string{evilZone, "a.e", "b.a.e", "n.e"}[s.chance.Intn(4)]
	}
	return s.w.anyName(0, 3)
}

func (s slander) records(q api.Message) []api.Record {
	var all []api.Record
	for range s.chance.Intn(8) {
		r := s.record(s.name(), 1+s.chance.Intn(4))
		if s.chance.Intn(3) == 0 {
			r.Name = q.Name
		}
		if r.Type == api.Server || r.Type == api.Alias {
			r.Target = s.name()
		}
		all = append(all, r)
	}
	return all
}

func (s slander) says(q api.Message) api.Message {
	return api.Message{Code: []int{0, 0, 0, 1, 2, 3}[s.chance.Intn(6)], Answer: s.records(q), Servers: s.records(q), More: s.records(q)}
}

// answers is what anybody says: the evil zone's servers lie, the others do not.
func (s slander) answers(t *testing.T, sent api.Packet) api.Packet {
	t.Helper()
	q, _ := signpost.Decode(sent.Bytes)
	if sent.Address == evilAddress {
		return replyTo(t, sent, s.says(q))
	}
	return s.w.answers(t, sent)
}

// withEvil makes a realm in which e is a zone, and nothing leads through it.
func withEvil(chance *rand.Rand) *realm {
	w := newRealm(chance, 900)
	w.bounds[evilZone] = 900
	w.sets[fact{evilZone, api.Server}] = list(server(evilZone, 900, "n.e"))
	w.sets[fact{"n.e", api.Address}] = list(address("n.e", 900, evilAddress))
	return w
}

// outside asks for a name that is none of the evil zone's, and wants what is
// so, unless too many questions are needed for it.
func (s slander) outside(t *testing.T, x *signpost.Resolver, from int) int {
	t.Helper()
	name, kind := s.w.anyName(0, 3), 1+s.chance.Intn(3)
	number, e := x.Ask(question(t, clientID, name, kind))
	if e != api.OK {
		t.Fatalf("Ask answers %d", e)
	}
	sent := s.settle(t, x, from)
	got, want := lastTold(t, x, number), s.w.means(name, kind)
	if got.Code == api.Failed && sent-from == api.MaxSends {
		return sent
	}
	if got.Code != want.code || !slices.Equal(withoutTtls(got.Answer), withoutTtls(want.records)) {
		t.Errorf("P10: of %q and %d is told %+v, want %+v", name, kind, got, want)
	}
	return sent
}

func (s slander) settle(t *testing.T, x *signpost.Resolver, from int) int {
	t.Helper()
	for {
		sent := x.Sent(from)
		if len(sent) == 0 {
			return from
		}
		for _, p := range sent {
			x.Deliver(s.answers(t, p))
		}
		from += len(sent)
	}
}

// checkEntries wants that nothing is remembered of other zones' names that
// their servers have not said.
func (s slander) checkEntries(t *testing.T, x *signpost.Resolver) {
	t.Helper()
	for _, e := range x.Entries() {
		if isWithin(e.Name, evilZone) {
			continue
		}
		want := firstSix(s.w.sets[fact{e.Name, e.Type}])
		if !slices.Equal(withoutTtls(e.Records), withoutTtls(want)) || e.Type == 0 && s.w.exists(e.Name) {
			t.Errorf("P10: remembered is %+v, where %+v is so", e, want)
		}
	}
}

func TestP10WhatAZoneSaysOfOthersIsNothing(t *testing.T) {
	lies := 0
	for seed := range 150 {
		chance := rand.New(rand.NewSource(int64(seed)))
		c := api.Config{Hints: []int{rootAddress}, Entries: 64, Tries: 1 + chance.Intn(3), Patience: 20, MaxTtl: 900}
		x := made(t, c)
		s := slander{liar{chance, 900}, withEvil(chance)}
		sent := 0
		for range 30 {
			for range chance.Intn(4) {
				x.Ask(question(t, clientID, []string{evilZone, "a.e", "b.a.e", "c.e", "n.e"}[chance.Intn(5)], 1+chance.Intn(3)))
				sent = s.settle(t, x, sent)
			}
			sent = s.outside(t, x, sent)
			s.checkEntries(t, x)
			if chance.Intn(3) == 0 {
				x.Tick()
			}
		}
		for _, p := range x.Sent(0) {
			if p.Address == evilAddress {
				lies++
			}
		}
	}
	if lies < 1000 {
		t.Errorf("only %d questions were answered by lies", lies)
	}
}

// Each way in which a server of b might speak for others.
func TestP10OneLieAtATime(t *testing.T) {
	for _, lie := range []api.Message{
		{Answer: list(address("c", 900, 66), address("a.b", 900, 1))},
		{Answer: list(alias("a.b", 900, "c"), address("c", 900, 66))},
		{Answer: list(alias("c", 900, "a.b"))},
		{Servers: list(server("c", 900, "n.b"), server("a.b", 900, "n.b")), More: list(address("n.b", 900, 66), address("c", 900, 66))},
		{Servers: list(server("a.b", 900, "c")), More: list(address("c", 900, 66))},
		{Servers: list(server("a.b", 900, "xb")), More: list(address("xb", 900, 66))},
		{Servers: list(server("", 900, "n.b")), More: list(address("n.b", 900, 66), address("", 900, 66))},
		{Servers: list(bound("", 900))},
		{Code: api.Unknown, Servers: list(bound("", 900), bound("c", 900), bound("b", 900))},
		{Code: api.Unknown, Servers: list(server("c", 900, "n.b"), bound("b", 900))},
	} {
		d := talk(t, patient())
		d.ask("a.b", api.Address)
		d.sends(9, "a.b", api.Address)
		d.hears(api.Message{Servers: list(server("b", 900, "n.b")), More: list(address("n.b", 900, 7))})
		d.sends(7, "a.b", api.Address)
		d.hears(lie)
		for _, e := range d.x.Entries() {
			if !isWithin(e.Name, "b") {
				t.Errorf("P10: after %+v there is %+v", lie, e)
			}
		}
		ticks(d.x, 400)
		d.sent, d.told = len(d.x.Sent(0)), len(d.x.Replies(0))
		d.ask("c", api.Address)
		d.sends(9, "c", api.Address)
		d.hears(api.Message{Answer: list(address("c", 9, 1))})
		d.tells("c", api.Address, api.Fine, address("c", 9, 1))
	}
}
