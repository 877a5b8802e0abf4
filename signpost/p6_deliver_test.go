package signpost_test

import (
	"slices"
	"testing"

	"signpost/api"
)

func TestP6TheDocumentsExample(t *testing.T) {
	d := talk(t, patient())
	d.ask("a.b", api.Address)
	d.sends(9, "a.b", api.Address)
	d.hears(api.Message{Servers: list(server("b", 50, "ns.b")), More: list(address("ns.b", 50, 7))})
	d.sends(7, "a.b", api.Address)
	d.hears(api.Message{Code: api.Unknown, Servers: list(bound("b", 20)), More: list(address("x.c", 50, 1))})
	d.tells("a.b", api.Address, api.Unknown)
	d.remembers(noneOf("a.b", 0, 20), entryOf(1, 50, server("b", 50, "ns.b")), entryOf(1, 50, address("ns.b", 50, 7)))
	ticks(d.x, 19)
	d.ask("a.b", api.Address)
	d.tells("a.b", api.Address, api.Unknown)
	d.x.Tick()
	d.ask("a.b", api.Address)
	d.sends(7, "a.b", api.Address)
}

func TestP6Answers(t *testing.T) {
	d := talk(t, patient())
	ticks(d.x, 5)
	d.ask("a.b", api.Address)
	d.sends(9, "a.b", api.Address)
	ticks(d.x, 2)
	one, two := address("a.b", 30, 4), address("a.b", 10, 5)
	d.hears(api.Message{Answer: list(address("x.b", 1, 9), one, server("a.b", 1, "x"), two, bound("a.b", 1)), Servers: list(bound("", 1), server("b", 1, "x")), More: list(address("x", 1, 1))})
	d.tells("a.b", api.Address, api.Fine, address("a.b", 8, 4), address("a.b", 8, 5))
	d.remembers(entryOf(2, 15, one, two))
	// Two numbers that are the same are still two records.
	d.ask("c", api.Address)
	d.sends(9, "c", api.Address)
	d.hears(api.Message{Code: api.Unknown, Answer: list(address("c", 9, 1), address("c", 9, 1)), Servers: list(bound("", 5))})
	d.tells("c", api.Address, api.Fine, address("c", 9, 1), address("c", 9, 1))
	d.ask("", api.Server)
	d.sends(9, "", api.Server)
	d.hears(api.Message{Answer: list(server("", 7, "ns"), server("", 8, ""))})
	d.tells("", api.Server, api.Fine, server("", 7, "ns"), server("", 7, ""))
}

func TestP6SixRecordsAndSeven(t *testing.T) {
	var records, told []api.Record
	for i := range 7 {
		records = append(records, address("a", 20-i, i))
		told = append(told, address("a", 15, i))
	}
	for _, count := range []int{6, 7} {
		d := talk(t, patient())
		d.ask("a", api.Address)
		d.sends(9, "a", api.Address)
		d.hears(api.Message{Answer: records[:count]})
		d.tells("a", api.Address, api.Fine, told[:6]...)
		d.remembers(entryOf(2, 15, records[:6]...))
	}
}

func TestP6TtlsGreaterThanMaxTtl(t *testing.T) {
	c := patient()
	c.MaxTtl = 10
	for _, ttls := range [][2]int{{9, 9}, {10, 10}, {11, 10}, {1000, 10}} {
		given, kept := ttls[0], ttls[1]
		d := talk(t, c)
		d.ask("a.b", api.Address)
		d.sends(9, "a.b", api.Address)
		d.hears(api.Message{Servers: list(server("b", given, "n.b")), More: list(address("n.b", given, 1))})
		d.sends(1, "a.b", api.Address)
		d.hears(api.Message{Answer: list(alias("a.b", given, "c.b"))})
		d.sends(1, "c.b", api.Address)
		d.hears(api.Message{Code: api.Unknown, Servers: list(bound("b", given))})
		d.tells("a.b", api.Address, api.Unknown, alias("a.b", kept, "c.b"))
		d.remembers(entryOf(2, kept, alias("a.b", kept, "c.b")), entryOf(1, kept, server("b", kept, "n.b")), noneOf("c.b", 0, kept), entryOf(1, kept, address("n.b", kept, 1)))
	}
}

func TestP6AtTheTickAtWhichItIsNoLongerLive(t *testing.T) {
	for _, said := range []api.Message{{Answer: list(address("a", 5, 1))}, {Servers: list(bound("", 5))}, {Code: api.Unknown, Servers: list(bound("", 5))}, {Answer: list(alias("a", 5, ""))}} {
		d := talk(t, patient())
		d.ask("", api.Address)
		d.sends(9, "", api.Address)
		d.hears(api.Message{Servers: list(bound("", 100))})
		d.tells("", api.Address, api.Fine)
		d.ask("a", api.Address)
		d.sends(9, "a", api.Address)
		d.hears(said)
		d.told++
		ticks(d.x, 4)
		d.ask("a", api.Address)
		d.told++
		d.quiet()
		d.x.Tick()
		d.ask("a", api.Address)
		d.sends(9, "a", api.Address)
	}
}

// What comes so late that its time is over is remembered, but it is not live:
// the question is asked again.
func TestP6AReplyThatComesWhenItsTimeIsOver(t *testing.T) {
	c := patient()
	c.Tries = 2
	d := talk(t, c)
	d.ask("a", api.Address)
	d.sends(9, "a", api.Address)
	ticks(d.x, 3)
	d.hears(api.Message{Answer: list(address("a", 3, 1))})
	d.sends(9, "a", api.Address)
	d.remembers(entryOf(2, 3, address("a", 3, 1)))
	ticks(d.x, 3)
	d.hears(api.Message{Answer: list(address("a", 4, 2))})
	d.tells("a", api.Address, api.Fine, address("a", 1, 2))
}

func TestP6Aliases(t *testing.T) {
	d := talk(t, patient())
	d.ask("a", api.Address)
	d.sends(9, "a", api.Address)
	d.x.Tick()
	d.hears(api.Message{Answer: list(address("b", 9, 1), alias("a", 9, "b"), alias("a", 3, "x")), Servers: list(bound("", 1))})
	d.sends(9, "b", api.Address)
	d.hears(api.Message{Code: api.Unknown, Answer: list(alias("b", 7, "c")), Servers: list(bound("", 5))})
	d.sends(9, "c", api.Address)
	d.hears(api.Message{Servers: list(bound("", 5))})
	d.tells("a", api.Address, api.Fine, alias("a", 8, "b"), alias("b", 7, "c"))
	d.remembers(entryOf(2, 9, alias("a", 9, "b")), entryOf(2, 8, alias("b", 7, "c")), noneOf("c", 1, 6))
	// The alias itself is an answer; of several all are remembered, the first leads on.
	d.ask("a", api.Alias)
	d.tells("a", api.Alias, api.Fine, alias("a", 8, "b"))
	d.ask("d", api.Alias)
	d.sends(9, "d", api.Alias)
	d.hears(api.Message{Answer: list(alias("d", 9, "b"), alias("d", 5, "x"))})
	d.tells("d", api.Alias, api.Fine, alias("d", 5, "b"), alias("d", 5, "x"))
	d.ask("d", api.Address)
	d.tells("d", api.Address, api.Fine, alias("d", 5, "b"), alias("b", 7, "c"))
}

func TestP6FourAliasesAndFive(t *testing.T) {
	row := []string{"a", "b", "c", "d", "e", "f"}
	for count := 4; count <= 5; count++ {
		d := talk(t, patient())
		d.ask("a", api.Address)
		var told []api.Record
		for i := range count {
			d.sends(9, row[i], api.Address)
			told = append(told, alias(row[i], 9, row[i+1]))
			d.hears(api.Message{Answer: told[i:]})
		}
		if count == 5 {
			d.tells("a", api.Address, api.Failed)
			d.ask("b", api.Address)
			d.sends(9, "f", api.Address)
			d.hears(api.Message{Answer: list(address("f", 9, 1))})
			d.tells("b", api.Address, api.Fine, append(told[1:], address("f", 9, 1))...)
			continue
		}
		var six []api.Record
		for i := range 6 {
			six = append(six, address("e", 9, i))
		}
		d.sends(9, "e", api.Address)
		d.hears(api.Message{Answer: six})
		d.tells("a", api.Address, api.Fine, slices.Concat(told, six)...)
	}
}

// An alias that has run out while the rest was looked for may lead elsewhere
// now: it is asked for again.
func TestP6AnAliasThatHasRunOut(t *testing.T) {
	for wait := 1; wait <= 3; wait++ {
		c := patient()
		c.Tries = 2
		d := talk(t, c)
		d.ask("a", api.Address)
		d.sends(9, "a", api.Address)
		d.hears(api.Message{Answer: list(alias("a", 2, "b"))})
		d.sends(9, "b", api.Address)
		ticks(d.x, wait)
		d.hears(api.Message{Answer: list(address("b", 9, 1))})
		if wait < 2 {
			d.tells("a", api.Address, api.Fine, alias("a", 1, "b"), address("b", 8, 1))
			continue
		}
		d.sends(9, "a", api.Address)
		d.hears(api.Message{Answer: list(alias("a", 2, "c"))})
		d.sends(9, "c", api.Address)
		d.hears(api.Message{Code: api.Unknown, Servers: list(bound("", 5))})
		d.tells("a", api.Address, api.Unknown, alias("a", 2, "c"))
	}
}

// What was tried stays tried when a goal begins again.
func TestP6AnAliasThatHasRunOutTwice(t *testing.T) {
	c := patient()
	c.Tries = 2
	d := talk(t, c)
	d.ask("a", api.Address)
	d.sends(9, "a", api.Address)
	d.hears(api.Message{Answer: list(alias("a", 1, "b"))})
	d.sends(9, "b", api.Address)
	d.x.Tick()
	d.hears(api.Message{Servers: list(bound("", 900))})
	d.sends(9, "a", api.Address)
	d.x.Tick()
	d.hears(api.Message{Answer: list(alias("a", 1, "b"))})
	d.tells("a", api.Address, api.Failed)
}

func TestP6ABoundWithFineAndWithUnknown(t *testing.T) {
	d := talk(t, patient())
	d.ask("a.b", api.Address)
	d.sends(9, "a.b", api.Address)
	d.hears(api.Message{Servers: list(bound("c", 1), bound("a.a.b", 1), bound("b", 8), bound("", 3))})
	d.tells("a.b", api.Address, api.Fine)
	d.remembers(noneOf("a.b", 1, 8))
	d.ask("a.b", api.Address)
	d.tells("a.b", api.Address, api.Fine)
	d.ask("a.b", api.Server)
	d.sends(9, "a.b", api.Server)
	d.hears(api.Message{Code: api.Unknown, Servers: list(server("b", 9, "n.b"), bound("a.b", 6))})
	d.tells("a.b", api.Server, api.Unknown)
	d.remembers(noneOf("a.b", 0, 6), noneOf("a.b", 1, 8))
	for kind := 1; kind <= 3; kind++ {
		d.ask("a.b", kind)
		d.tells("a.b", kind, api.Unknown)
	}
	// Of what lies below it, nothing was said.
	d.ask("x.a.b", api.Address)
	d.sends(9, "x.a.b", api.Address)
}

func TestP6WithoutABoundThereIsNothing(t *testing.T) {
	for _, said := range []api.Message{{}, {Code: api.Unknown}, {Servers: list(bound("c", 5), bound("x.a.b", 5))}, {Code: api.Unknown, Servers: list(server("b", 5, "n.b"))},
		{Answer: list(bound("b", 5)), More: list(bound("b", 5))}} {
		d := talk(t, patient())
		d.ask("a.b", api.Address)
		d.sends(9, "a.b", api.Address)
		d.hears(said)
		d.tells("a.b", api.Address, api.Failed)
		d.remembers()
	}
}

func TestP6ZonesWithAndWithoutAddresses(t *testing.T) {
	d := talk(t, patient())
	d.ask("x.a.b", api.Address)
	d.sends(9, "x.a.b", api.Address)
	d.hears(api.Message{Servers: list(server("c", 9, "n.c"), server("b", 9, "n.b"), server("a.b", 9, "n.a.b"), alias("b", 1, "y"), server("b", 5, "m.b")),
		More: list(address("m.b", 9, 12), address("n.b", 4, 11), server("n.b", 1, "n.b"), address("n.b", 9, 13), address("n.c", 9, 14))})
	d.remembers(entryOf(1, 5, server("b", 9, "n.b"), server("b", 5, "m.b")), entryOf(1, 9, address("m.b", 9, 12)), entryOf(1, 4, address("n.b", 4, 11), address("n.b", 9, 13)))
	d.sends(11, "x.a.b", api.Address)
	d.hears(api.Message{Servers: list(server("a.b", 8, "n.c"))})
	d.sends(9, "n.c", api.Address)
	d.hears(api.Message{Answer: list(address("n.c", 9, 20))})
	d.sends(20, "x.a.b", api.Address)
	d.hears(api.Message{Answer: list(address("x.a.b", 9, 33))})
	d.tells("x.a.b", api.Address, api.Fine, address("x.a.b", 9, 33))
	// What was said along the way is no answer.
	d.ask("n.b", api.Address)
	d.sends(11, "n.b", api.Address)
	d.hears(api.Message{Servers: list(bound("b", 9))})
	d.tells("n.b", api.Address, api.Fine)
	d.ask("b", api.Server)
	d.sends(12, "b", api.Server)
}

// The zone that was asked, those above it and those beside the name do not
// lead on.
func TestP6AZoneThatIsTheOneThatWasAsked(t *testing.T) {
	d := talk(t, patient())
	d.ask("x.a.b", api.Address)
	d.sends(9, "x.a.b", api.Address)
	d.hears(api.Message{Servers: list(server("", 9, "n"), server("b", 9, "n.b")), More: list(address("n", 9, 1), address("n.b", 9, 11))})
	d.sends(11, "x.a.b", api.Address)
	d.hears(api.Message{Servers: list(server("b", 9, "m.b"), server("", 9, "m.b"), server("c.b", 9, "m.b"), server("a", 9, "m.b"), server("y.x.a.b", 9, "m.b"), bound("b", 7)), More: list(address("m.b", 9, 2))})
	d.tells("x.a.b", api.Address, api.Fine)
	d.remembers(entryOf(1, 9, server("b", 9, "n.b")), entryOf(1, 9, address("n.b", 9, 11)), noneOf("x.a.b", 1, 7))
}

// A target that is named twice is stored where it is named first: m.b is used
// behind it.
func TestP6TheSameTargetNamedTwice(t *testing.T) {
	c := patient()
	c.Entries = 4
	d := talk(t, c)
	set := list(server("b", 9, "l.b"), server("b", 9, "n.b"), server("b", 9, "m.b"), server("b", 9, "n.b"))
	l, m, n := address("l.b", 9, 3), address("m.b", 9, 2), address("n.b", 9, 1)
	d.ask("a.b", api.Address)
	d.sends(9, "a.b", api.Address)
	d.hears(api.Message{Servers: set, More: list(n, m, l)})
	d.remembers(entryOf(1, 9, set...), entryOf(1, 9, l), entryOf(1, 9, m), entryOf(1, 9, n))
	d.sends(3, "a.b", api.Address)
	d.hears(api.Message{Answer: list(address("a.b", 9, 5))})
	d.tells("a.b", api.Address, api.Fine, address("a.b", 9, 5))
	d.remembers(entryOf(2, 9, address("a.b", 9, 5)), entryOf(1, 9, set...), entryOf(1, 9, l), entryOf(1, 9, m))
}

// A name that ends with the letters of another one does not lie within it.
func TestP6NamesThatLookAlike(t *testing.T) {
	d := talk(t, patient())
	d.ask("a.xb", api.Address)
	d.sends(9, "a.xb", api.Address)
	d.hears(api.Message{Servers: list(server("b", 9, "n.b"), bound("b", 9), bound("xb", 7))})
	d.tells("a.xb", api.Address, api.Fine)
	d.remembers(noneOf("a.xb", 1, 7))
}

// Seven targets with room for all; the seventh server is none of the entry's.
func TestP6SixServersAndSeven(t *testing.T) {
	var servers, more []api.Record
	want := []api.Entry{{}}
	for i, target := range []string{"c.b", "d.b", "e.b", "f.b", "g.b", "h.b", "i.b"} {
		servers = append(servers, server("b", 20-i, target))
		more = append(more, address(target, 30-i, i))
		want = append(want, entryOf(1, 30-i, more[i]))
	}
	want[0] = entryOf(1, 15, servers[:6]...)
	d := talk(t, patient())
	d.ask("a.b", api.Address)
	d.sends(9, "a.b", api.Address)
	d.hears(api.Message{Servers: servers, More: more})
	d.sends(0, "a.b", api.Address)
	d.remembers(want[:7]...)
}

// An answer stays while it is live, whatever is said along another way.
func TestP6WhatWasSaidAlongTheWayDoesNotTakeAnAnswersPlace(t *testing.T) {
	d := talk(t, patient())
	d.ask("b", api.Server)
	d.sends(9, "b", api.Server)
	d.hears(api.Message{Answer: list(server("b", 10, "n.b"))})
	d.tells("b", api.Server, api.Fine, server("b", 10, "n.b"))
	said := api.Message{Servers: list(server("b", 30, "m.b")), More: list(address("m.b", 30, 4))}
	d.ask("a.b", api.Address)
	d.sends(9, "n.b", api.Address)
	d.hears(said)
	d.remembers(entryOf(2, 10, server("b", 10, "n.b")), entryOf(1, 30, address("m.b", 30, 4)))
	// The goal n.b has asked the root, and so has, after it, a.b.
	d.sends(9, "a.b", api.Address)
	ticks(d.x, 9)
	d.ask("c.b", api.Address)
	d.sends(9, "n.b", api.Address)
	d.x.Tick()
	d.hears(said)
	d.remembers(entryOf(1, 40-1, server("b", 30, "m.b")), entryOf(1, 40-1, address("m.b", 30, 4)))
	d.sends(4, "n.b", api.Address)
}

func TestP6OneOfTheSameRankTakesItsPlace(t *testing.T) {
	d := talk(t, patient())
	d.ask("a", api.Address)
	d.sends(9, "a", api.Address)
	first := d.last
	d.x.Tick()
	d.ask("a", api.Address)
	d.sends(9, "a", api.Address)
	d.hears(api.Message{Answer: list(address("a", 10, 2))})
	d.tells("a", api.Address, api.Fine, address("a", 10, 2))
	d.x.Deliver(replyTo(t, first, api.Message{Answer: list(address("a", 10, 1))}))
	d.tells("a", api.Address, api.Fine, address("a", 9, 1))
	d.remembers(entryOf(2, 10, address("a", 10, 1)))
}

func TestP6EntriesAndOneMore(t *testing.T) {
	c := patient()
	c.Entries = 4
	d := talk(t, c)
	learn := func(name string, ttl int) {
		t.Helper()
		d.ask(name, api.Address)
		d.sends(9, name, api.Address)
		d.hears(api.Message{Answer: list(address(name, ttl, 1))})
		d.tells(name, api.Address, api.Fine, address(name, ttl, 1))
	}
	wantNames := func(want ...string) {
		t.Helper()
		var got []string
		for _, e := range d.x.Entries() {
			got = append(got, e.Name)
		}
		if !slices.Equal(got, want) {
			t.Errorf("P6: remembered are %q, want %q", got, want)
		}
	}
	for i, name := range []string{"a", "b", "c", "d"} {
		learn(name, []int{50, 3, 50, 50}[i])
	}
	wantNames("a", "b", "c", "d")
	d.ask("a", api.Address)
	d.tells("a", api.Address, api.Fine, address("a", 50, 1))
	ticks(d.x, 2)
	learn("e", 50) // all are live, and b was used longest ago
	wantNames("a", "c", "d", "e")
	learn("f", 3)
	wantNames("a", "d", "e", "f")
	ticks(d.x, 3)
	learn("g", 50) // f is not live any more
	wantNames("a", "d", "e", "g")
	learn("h", 50)
	wantNames("a", "e", "g", "h")
	learn("d", 50)
	wantNames("d", "e", "g", "h")
}

func TestP6MaxSends(t *testing.T) {
	for tries, count := range map[int]int{1: 7, 2: 13, 3: 16} {
		c := patient()
		c.Tries = tries
		d := talk(t, c)
		d.ask("a.b", api.Address)
		d.sends(9, "a.b", api.Address)
		var more []api.Record
		for i := range 6 {
			more = append(more, address("n.b", 900, 10+i))
		}
		d.hears(api.Message{Servers: list(server("b", 900, "n.b")), More: more})
		for i := 1; i < count; i++ {
			d.sends(10+(i-1)/tries, "a.b", api.Address)
			d.hears(api.Message{Code: api.Failed})
		}
		// What is left of the root's tries, the first one has not used up.
		for range min(tries-1, 16-count) {
			d.sends(9, "a.b", api.Address)
			d.hears(api.Message{})
		}
		d.tells("a.b", api.Address, api.Failed)
	}
}

// Each server's address leads through a zone whose server's address leads
// through another one: no more than four goals are there at one time.
func TestP6FourGoals(t *testing.T) {
	d := talk(t, patient())
	for _, s := range []api.Record{server("a", 900, "x.b"), server("b", 900, "x.c"), server("c", 900, "x.d"), server("d", 900, "x.e")} {
		d.ask(s.Name, api.Server)
		d.sends(9, s.Name, api.Server)
		d.hears(api.Message{Answer: list(s)})
		d.tells(s.Name, api.Server, api.Fine, s)
	}
	d.ask("y.a", api.Address)
	// y.a, x.b, x.c and x.d are four: x.e is not asked for.
	d.sends(9, "x.d", api.Address)
	d.hears(api.Message{Answer: list(address("x.d", 900, 3))})
	d.sends(3, "x.c", api.Address)
	d.hears(api.Message{Answer: list(address("x.c", 900, 2))})
	d.sends(2, "x.b", api.Address)
	d.hears(api.Message{Code: api.Unknown, Servers: list(bound("b", 900))})
	d.sends(9, "y.a", api.Address)
	d.hears(api.Message{})
	d.tells("y.a", api.Address, api.Failed)
	d.ask("y.b", api.Address)
	d.sends(2, "y.b", api.Address)
}

func TestP6ServersWhoseAddressesNobodyTells(t *testing.T) {
	d := talk(t, patient())
	d.ask("a", api.Address)
	d.sends(9, "a", api.Address)
	d.hears(api.Message{Servers: list(server("a", 9, "x.a"), server("a", 9, "b"), server("a", 9, "c"))})
	d.sends(9, "b", api.Address)
	d.hears(api.Message{Code: api.Unknown, Servers: list(bound("", 9))})
	d.sends(9, "c", api.Address)
	d.hears(api.Message{Code: api.Broken})
	d.sends(9, "x.a", api.Address)
	d.hears(api.Message{Code: api.Failed})
	d.sends(9, "c", api.Address)
	d.hears(api.Message{Answer: list(address("c", 9, 30))})
	d.sends(30, "a", api.Address)
	ticks(d.x, 20)
	d.tells("a", api.Address, api.Failed)
}
