package task

import (
	"slices"
	"strings"
	"testing"

	"signpost/api"
	"signpost/memory"
)

func TestFromTheRoot(t *testing.T) {
	w := world()
	w.Config.Hints, w.Config.Tries = []int{9, 0, 255}, 2
	wantUnanswered(t, begin("a.b", api.Server), w, "9 a.b 2", "9 a.b 2", "0 a.b 2", "0 a.b 2", "255 a.b 2", "255 a.b 2")
	wantUnanswered(t, begin("", api.Alias), w, "9  3", "9  3", "0  3", "0  3", "255  3", "255  3")
}

// It is the address that is tried, not its place among the hints.
func TestAHintThatIsThereTwice(t *testing.T) {
	w := world()
	w.Config.Hints = []int{9, 8, 9}
	wantUnanswered(t, begin("a", api.Address), w, "9 a 1", "8 a 1")
}

func TestZonesFromTheNearestOn(t *testing.T) {
	w := world(servers("a.b.c", "x"), servers("b.c", "y"), servers("c", "z"), servers("d", "x"), servers("z.a.b.c", "x"),
		at("x", 1), at("y", 2), at("z", 3))
	wantUnanswered(t, begin("a.b.c", api.Address), w, "1 a.b.c 1", "2 a.b.c 1", "3 a.b.c 1", "9 a.b.c 1")
	wantUnanswered(t, begin("b.c", api.Address), w, "2 b.c 1", "3 b.c 1", "9 b.c 1")
	wantUnanswered(t, begin("b", api.Address), w, "9 b 1")
}

func TestZonesThatAreNone(t *testing.T) {
	w := world(nothing("a.b.c", api.Server, sideways, always), targets("b.c", api.Server, answer, 5, "x"), targets("c", api.Server, answer, always, "x"),
		servers("", "y"), at("x", 1), at("y", 2))
	w.Now = 5
	k := begin("a.b.c", api.Address)
	wantSend(t, k, w, 1, "a.b.c", api.Address)
	if tried := k.goals[0].tried; tried[attempt{"a.b.c", "c", 1}] != 1 || len(tried) != 1 {
		t.Errorf("tried are %v, want the zone c", tried)
	}
	wantUnanswered(t, k, w, "9 a.b.c 1")
}

func TestAddressesInOrder(t *testing.T) {
	w := world(servers("b", "x", "y", "x", "z"), at("x", 5, 4), at("y", 4, 3), addresses("z", answer, always, 2))
	w.Config.Tries = 2
	wantUnanswered(t, begin("a.b", api.Address), w, "5 a.b 1", "5 a.b 1", "4 a.b 1", "4 a.b 1", "3 a.b 1", "3 a.b 1", "2 a.b 1", "2 a.b 1", "9 a.b 1", "9 a.b 1")
}

// An address counts as tried in the zone in which it was, and for the name.
func TestTriesAreCountedByZoneAndName(t *testing.T) {
	w := world(servers("a.b", "x"), servers("b", "x"), at("x", 9))
	wantUnanswered(t, begin("a.b", api.Address), w, "9 a.b 1", "9 a.b 1", "9 a.b 1")
	k := begin("a.b", api.Address)
	wantSend(t, k, w, 9, "a.b", api.Address)
	wantSend(t, k, w, 9, "a.b", api.Address)
	w.remember(alias("a.b", always, "c.b"))
	wantUnanswered(t, k, w, "9 c.b 1", "9 c.b 1")
	// Each goal counts on its own.
	wantUnanswered(t, begin("c.b", api.Address), w, "9 c.b 1", "9 c.b 1")
}

func TestAddressesOfServersAreAskedFor(t *testing.T) {
	w := world(servers("b", "x.c", "y.c", "z.c"), at("y.c", 5))
	k := begin("a.b", api.Server)
	wantUnanswered(t, k, w, "5 a.b 2", "9 x.c 1", "9 z.c 1", "9 a.b 2")
	// What was found leads on.
	k = begin("a.b", api.Server)
	wantSend(t, k, w, 5, "a.b", api.Server)
	wantSend(t, k, w, 9, "x.c", api.Address)
	w.remember(addresses("x.c", answer, always, 6, 7))
	wantUnanswered(t, k, w, "6 a.b 2", "7 a.b 2", "9 z.c 1", "9 a.b 2")
}

// The goal below begins with what is remembered: it may be known by now.
func TestTheGoalBelowLooksAgain(t *testing.T) {
	w := world(servers("b", "x.c"))
	k := begin("a.b", api.Address)
	wantSend(t, k, w, 9, "x.c", api.Address)
	w.remember(addresses("a.b", answer, 8, 1))
	wantEnd(t, k, w, api.Fine, told(8, addresses("a.b", 0, 0, 1))...)
}

// An address that is found by an alias is none of the server's own: it is not
// asked for again, and nobody is asked there.
func TestServersThatAreAliases(t *testing.T) {
	w := world(servers("b", "x.c"), alias("x.c", 3, "y.c"), addresses("y.c", answer, always, 5))
	wantUnanswered(t, begin("a.b", api.Address), w, "9 a.b 1")
	w = world(servers("b", "x.c", "y.c", "z.c"), nothing("x.c", memory.NoSuchName, answer, always), nothing("y.c", api.Address, answer, always), at("z.c", 4))
	wantUnanswered(t, begin("a.b", api.Address), w, "4 a.b 1", "9 a.b 1")
}

// An address that ran out is not known, and is asked for; what was asked for
// once is not asked for again.
func TestAddressesThatRanOut(t *testing.T) {
	w := world(servers("b", "x.c"), addresses("x.c", sideways, 2, 5))
	w.Config.Tries = 2
	k := begin("a.b", api.Address)
	wantSend(t, k, w, 5, "a.b", api.Address)
	w.Now = 2
	wantSend(t, k, w, 9, "x.c", api.Address)
	w.remember(addresses("x.c", answer, 4, 5))
	wantSend(t, k, w, 5, "a.b", api.Address)
	w.Now = 4
	wantUnanswered(t, k, w, "9 a.b 1", "9 a.b 1")
}

func TestServersWhoseAddressIsLookedForAlready(t *testing.T) {
	// The client's own question is for that address.
	w := world(servers("b", "ns.b"))
	wantUnanswered(t, begin("ns.b", api.Address), w, "9 ns.b 1")
	// It is for another type: then the address is asked for.
	wantUnanswered(t, begin("ns.b", api.Server), w, "9 ns.b 1", "9 ns.b 2")
	// Two zones whose servers lie in one another.
	w = world(servers("b", "ns.c"), servers("c", "ns.b"))
	wantUnanswered(t, begin("a.b", api.Address), w, "9 ns.b 1", "9 ns.c 1", "9 a.b 1")
	// The name with which a goal began counts, not the one to which it came.
	w = world(servers("b", "ns.b"), alias("ns.b", always, "x.b"))
	wantUnanswered(t, begin("ns.b", api.Address), w, "9 x.b 1")
	w = world(servers("b", "x.b"), alias("a.b", always, "x.b"))
	wantUnanswered(t, begin("a.b", api.Address), w, "9 x.b 1", "9 x.b 1")
}

func TestNoMoreThanMaxGoals(t *testing.T) {
	w := world(servers("a", "x.b"), servers("b", "x.c"), servers("c", "x.d"), servers("d", "x.e"))
	wantUnanswered(t, begin("x.a", api.Address), w, "9 x.d 1", "9 x.c 1", "9 x.b 1", "9 x.a 1")
	// A goal that has ended makes room; what it has asked for, another one may
	// ask for again.
	w = world(servers("a", "x.b", "y.b"), servers("b", "x.c"), servers("c", "x.d", "y.d"), servers("d", "x.e"))
	wantUnanswered(t, begin("x.a", api.Address), w,
		"9 x.d 1", "9 y.d 1", "9 x.c 1", "9 x.b 1", "9 x.d 1", "9 y.d 1", "9 x.c 1", "9 y.b 1", "9 x.a 1")
}

// A zone whose servers are all asked for is left for the next zone, where they
// are not asked for again.
func TestTheNextZone(t *testing.T) {
	w := world(servers("a.b", "x.c", "y.c"), servers("b", "y.c", "z.c"), at("z.c", 4))
	wantUnanswered(t, begin("k.a.b", api.Address), w, "9 x.c 1", "9 y.c 1", "4 k.a.b 1", "9 k.a.b 1")
}

func TestMaxSends(t *testing.T) {
	w := world(servers("b", "x", "y", "z"), at("x", 1, 2, 3, 4, 5, 6), at("y", 11, 12, 13, 14, 15, 16), at("z", 21, 22, 23))
	sent := unanswered(t, begin("a.b", api.Address), w)
	if len(sent) != 16 || sent[15] != "9 a.b 1" {
		t.Errorf("sent were %q", sent)
	}
	w.remember(at("z", 21, 22, 23, 24))
	sent = unanswered(t, begin("a.b", api.Address), w)
	if len(sent) != 16 || sent[15] != "24 a.b 1" {
		t.Errorf("sent were %q", sent)
	}
}

// The task ends with MaxSends, not just the goal on top; and what it was about
// to send there is not used.
func TestMaxSendsOfAllGoals(t *testing.T) {
	w := world(servers("b", "x", "y"), at("x", 1, 2, 3, 4, 5), servers("y", "z"), at("z", 6))
	w.Config.Tries = 3
	k := begin("a.b", api.Address)
	for range 15 {
		k.Work(*w)
	}
	wantSend(t, k, w, 6, "y", api.Address)
	if len(k.goals) != 2 {
		t.Errorf("the task has %d goals", len(k.goals))
	}
	wantEnd(t, k, w, api.Failed)
}

// After MaxSends the task may still end otherwise, if nothing is to be sent.
func TestAnswersAfterMaxSends(t *testing.T) {
	w := world(servers("b", "x"), at("x", 1, 2, 3, 4, 5, 6))
	w.Config.Tries = 3
	k := begin("a.b", api.Address)
	for range 16 {
		k.Work(*w)
	}
	w.remember(addresses("a.b", answer, 10, 3))
	wantEnd(t, k, w, api.Fine, told(10, addresses("a.b", 0, 0, 3))...)
}

func TestWaited(t *testing.T) {
	w := world()
	w.Now = 7
	k := begin("a", api.Address)
	k.Work(*w)
	if got := k.Waited(7); got != 0 {
		t.Errorf("Waited at once = %d", got)
	}
	if got := k.Waited(12); got != 5 {
		t.Errorf("Waited after 5 ticks = %d", got)
	}
}

// forgotten tells which names go, one after the other, when the memory is
// filled with others: those used longest ago first.
func forgotten(w *World) []string {
	var gone []string
	before := w.Memory.Entries()
	for i := range w.Config.Entries {
		w.remember(addresses(string([]byte{'q', byte('a' + i/26), byte('a' + i%26)}), answer, always, 1))
		after := w.Memory.Entries()
		for _, e := range before {
			if !slices.ContainsFunc(after, func(a api.Entry) bool { return a.Name == e.Name && a.Type == e.Type }) {
				gone = append(gone, e.Name)
			}
		}
		before = after
	}
	return slices.DeleteFunc(gone, func(name string) bool { return strings.HasPrefix(name, "q") })
}

func wantForgotten(t *testing.T, w *World, want ...string) {
	t.Helper()
	if got := forgotten(w); !slices.Equal(got, want) {
		t.Errorf("in the order of their last use the names are %q, want %q", got, want)
	}
}

func TestUses(t *testing.T) {
	l := alias("a", always, "e")
	e := addresses("e", answer, always, 1)
	none, unknown := nothing("n", api.Address, answer, always), nothing("u", memory.NoSuchName, answer, always)
	other := addresses("o", answer, always, 1)
	for _, c := range []struct {
		name string
		want []string
	}{
		{"a", []string{"n", "u", "o", "a", "e"}}, {"e", []string{"a", "n", "u", "o", "e"}},
		{"n", []string{"a", "e", "u", "o", "n"}}, {"u", []string{"a", "e", "n", "o", "u"}}, {"x", []string{"a", "e", "n", "u", "o"}},
	} {
		w := world(l, e, none, unknown, other)
		begin(c.name, api.Address).Work(*w)
		wantForgotten(t, w, c.want...)
	}
}

func TestUsesOfWhatLedThere(t *testing.T) {
	entries := []api.Entry{at("y", 2), at("x", 1), servers("b", "x", "y"), servers("c.b", "x"), at("o", 1)}
	w := world(entries...)
	k := begin("a.b", api.Address)
	k.Work(*w)
	wantForgotten(t, w, "y", "c.b", "o", "b", "x")
	w = world(entries...)
	k = begin("a.b", api.Address)
	k.Work(*w)
	k.Work(*w)
	wantForgotten(t, w, "c.b", "o", "x", "b", "y")
	w = world(entries...)
	begin("a", api.Address).Work(*w)
	wantForgotten(t, w, "y", "x", "b", "c.b", "o")
	// Of the root an entry does not count, nor is it used.
	w = world(servers("", "x"), at("", 3), at("x", 3))
	begin("a", api.Address).Work(*w)
	wantForgotten(t, w, "", "", "x")
}

func TestNoUseAfterMaxSends(t *testing.T) {
	w := world(servers("b", "x"), at("x", 1, 2, 3, 4, 5, 6))
	w.Config.Tries = 3
	k := begin("a.b", api.Address)
	for range 16 {
		k.Work(*w)
	}
	w.remember(at("o", 1))
	wantEnd(t, k, w, api.Failed)
	wantForgotten(t, w, "b", "x", "o")
}
