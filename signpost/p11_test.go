package signpost_test

import (
	"math/rand"
	"slices"
	"testing"

	"signpost/api"
)

// A world that stays as it is, with nothing lost: what is so is found, unless
// that needs too many questions or aliases.
func TestP11WhatIsSoIsFound(t *testing.T) {
	codes, tooMany := make([]int, 4), 0
	for seed := range 200 {
		chance := rand.New(rand.NewSource(int64(seed)))
		c := api.Config{Hints: []int{rootAddress}, Entries: []int{4, 16, 64}[chance.Intn(3)], Tries: 1 + chance.Intn(3), Patience: 1 + chance.Intn(20), MaxTtl: 1 + chance.Intn(1000)}
		x, w := made(t, c), newRealm(chance, []int{3, 50}[chance.Intn(2)])
		sent := 0
		for number := range 60 {
			name, kind := w.anyName(0, 4), 1+chance.Intn(3)
			wantAsk(t, x, question(t, clientID, name, kind), number)
			before := sent
			sent = w.settle(t, x, sent)
			got, want := lastTold(t, x, number), w.means(name, kind)
			codes[got.Code]++
			if got.Code == api.Failed && sent-before == api.MaxSends {
				tooMany++
			} else if got.Code != want.code || !slices.Equal(withoutTtls(got.Answer), withoutTtls(want.records)) {
				t.Errorf("P11: seed %d: of %q and %d is told %+v, want %+v", seed, name, kind, got, want)
			}
			for chance.Intn(3) == 0 {
				x.Tick()
			}
		}
	}
	if codes[api.Fine] < 5000 || codes[api.Unknown] < 1000 || tooMany > 100 {
		t.Errorf("the replies are of codes %v, for %d of them too many questions were needed", codes, tooMany)
	}
}

// From the root down through five zones, each with a server of its own.
func TestP11DownToTheLastZone(t *testing.T) {
	d := talk(t, patient())
	name := "a.b.c.d.e"
	d.ask(name, api.Address)
	d.sends(9, name, api.Address)
	for i, zone := range []string{"e", "d.e", "c.d.e", "b.c.d.e"} {
		d.hears(api.Message{Servers: list(server(zone, 9, "n."+zone), server(zone, 9, zone)), More: list(address("n."+zone, 9, 20+i), address(zone, 9, 30))})
		d.sends(20+i, name, api.Address)
	}
	d.hears(api.Message{Servers: list(server(name, 9, name)), More: list(address(name, 9, 40))})
	d.sends(40, name, api.Address)
	d.hears(api.Message{Answer: list(address(name, 9, 40))})
	d.tells(name, api.Address, api.Fine, address(name, 9, 40))
}

// Sixteen questions may be needed: the sixteenth reply is still of use.
func TestP11SixteenQuestions(t *testing.T) {
	d := talk(t, patient())
	d.ask("a.b.c.d", api.Address)
	number, zones := 20, []string{"d", "c.d", "b.c.d"}
	down := func(name string, zones ...string) {
		t.Helper()
		for _, zone := range zones {
			number++
			d.hears(api.Message{Servers: list(server(zone, 9, zone)), More: list(address(zone, 9, number))})
			d.sends(number, name, api.Address)
		}
	}
	d.sends(9, "a.b.c.d", api.Address)
	down("a.b.c.d", zones...)
	told := list(alias("a.b.c.d", 9, "a.b.c.e"), alias("a.b.c.e", 9, "a.b.c.f"), alias("a.b.c.f", 9, "a.b.c.g"))
	for i, last := range []string{"e", "f", "g"} {
		d.hears(api.Message{Answer: told[i : i+1]})
		d.sends(9, "a.b.c."+last, api.Address)
		down("a.b.c."+last, last, "c."+last, "b.c."+last)
	}
	d.hears(api.Message{Answer: list(address("a.b.c.g", 9, 1))})
	d.tells("a.b.c.d", api.Address, api.Fine, append(told, address("a.b.c.g", 9, 1))...)
	if d.sent != 16 {
		t.Errorf("P11: %d questions were sent", d.sent)
	}
}
