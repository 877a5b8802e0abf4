package signpost

import (
	"reflect"
	"slices"
	"testing"

	"signpost/api"
)

// These tests lay entries into a resolver's memory themselves.

func remembering(t *testing.T, entries ...api.Entry) *Resolver {
	t.Helper()
	x, e := New(api.Config{Hints: []int{9}, Entries: 64, Tries: 3, Patience: 3, MaxTtl: 100})
	if e != api.OK {
		t.Fatalf("New answers %d", e)
	}
	for _, e := range entries {
		x.world.Memory.Store(0, e)
	}
	return x
}

func addressEntry(name string, rank, until int, numbers ...int) api.Entry {
	e := api.Entry{Name: name, Type: api.Address, Rank: rank, Until: until}
	for _, n := range numbers {
		e.Records = append(e.Records, api.Record{Name: name, Type: api.Address, Ttl: until, Number: n})
	}
	return e
}

func targetEntry(name string, kind, rank, until int, target string) api.Entry {
	record := api.Record{Name: name, Type: kind, Ttl: until, Target: target}
	return api.Entry{Name: name, Type: kind, Rank: rank, Until: until, Records: []api.Record{record}}
}

func askedOf(t *testing.T, x *Resolver, m api.Message) int {
	t.Helper()
	s, _ := Encode(m)
	n, e := x.Ask(s)
	if e != api.OK {
		t.Fatalf("Ask(%q) answers %d", s, e)
	}
	return n
}

// wantLastReply wants that the newest reply is this one.
func wantLastReply(t *testing.T, x *Resolver, number int, want api.Message) {
	t.Helper()
	s, _ := Encode(want)
	replies := x.Replies(0)
	if len(replies) == 0 || replies[len(replies)-1] != (api.Reply{Number: number, Bytes: s}) {
		t.Errorf("the replies are %+v, want at the end %d, %q", replies, number, s)
	}
}

func TestP5WhatIsRememberedIsToldAtOnce(t *testing.T) {
	x := remembering(t, targetEntry("a", api.Alias, 2, 10, "b.c"), addressEntry("b.c", 2, 8, 4, 5), api.Entry{Name: "u", Rank: 2, Until: 9}, api.Entry{Name: "b.c", Type: api.Server, Rank: 2, Until: 9})
	x.Tick()
	link := api.Record{Name: "a", Type: api.Alias, Ttl: 9, Target: "b.c"}
	n := askedOf(t, x, api.Message{ID: 7, Name: "a", Type: api.Address})
	wantLastReply(t, x, n, api.Message{ID: 7, Reply: true, Name: "a", Type: api.Address, Answer: []api.Record{link,
		{Name: "b.c", Type: api.Address, Ttl: 7, Number: 4}, {Name: "b.c", Type: api.Address, Ttl: 7, Number: 5}}})
	n = askedOf(t, x, api.Message{ID: 8, Name: "u", Type: api.Server})
	wantLastReply(t, x, n, api.Message{ID: 8, Reply: true, Code: api.Unknown, Name: "u", Type: api.Server})
	n = askedOf(t, x, api.Message{ID: 9, Name: "a", Type: api.Server})
	wantLastReply(t, x, n, api.Message{ID: 9, Reply: true, Name: "a", Type: api.Server, Answer: []api.Record{link}})
	if n != 2 || len(x.Sent(0)) != 0 || len(x.tasks) != 0 {
		t.Errorf("P5: number %d, sent %+v, %d tasks", n, x.Sent(0), len(x.tasks))
	}
}

// What is told at once leaves the room of eight tasks free.
func TestP5ToldAtOnceIsNoTaskThatWaits(t *testing.T) {
	x := remembering(t, addressEntry("a", 2, 8, 4))
	for i := range 20 {
		if n := askedOf(t, x, api.Message{Name: "a", Type: api.Address}); n != i {
			t.Errorf("P5: number %d, want %d", n, i)
		}
	}
}

func TestP6TickUntilMaxSends(t *testing.T) {
	x := remembering(t, targetEntry("b", api.Server, 1, 100, "n"), addressEntry("n", 1, 100, 1, 2, 3, 4, 5, 6))
	askedOf(t, x, api.Message{ID: 7, Name: "a.b", Type: api.Address})
	for range 16*3 - 1 {
		x.Tick()
	}
	sent := x.Sent(0)
	if len(sent) != 16 || len(x.Replies(0)) != 0 {
		t.Errorf("P6: %d sends and %d replies just before the end", len(sent), len(x.Replies(0)))
	}
	for i, p := range sent {
		if p.Address != 1+i/3 {
			t.Errorf("P6: send %d went to %d", i, p.Address)
		}
	}
	x.Tick()
	wantLastReply(t, x, 0, api.Message{ID: 7, Reply: true, Code: api.Failed, Name: "a.b", Type: api.Address})
	if len(x.Sent(0)) != 16 {
		t.Errorf("P6: %d sends", len(x.Sent(0)))
	}
}

func TestP7EntriesByNameAndType(t *testing.T) {
	want := []api.Entry{addressEntry("", 1, 3, 1), {Name: "a", Rank: 2, Until: 1}, addressEntry("a", 2, 9, 4, 3), targetEntry("a", api.Server, 1, 9, "b"),
		targetEntry("a", api.Alias, 2, 9, "b"), addressEntry("a.b", 1, 9, 1), addressEntry("aa", 1, 9, 1), {Name: "b", Rank: 2, Until: 9}}
	x := remembering(t, slices.Concat(want[5:], want[2:5], want[:2])...)
	for range 12 {
		if got := x.Entries(); !reflect.DeepEqual(got, want) {
			t.Errorf("P7: Entries() = %+v, want %+v", got, want)
		}
		x.Tick()
	}
}

func TestP2EntriesThatCameOutAreTheCallers(t *testing.T) {
	want := []api.Entry{addressEntry("a", 2, 9, 4, 3, 2), addressEntry("b", 2, 9, 1)}
	x := remembering(t, want...)
	mark := api.Record{Name: "MARK", Type: -1}
	for i := range 2 {
		got := x.Entries()
		if !reflect.DeepEqual(got, want) {
			t.Errorf("P2: Entries() = %+v, want %+v", got, want)
		}
		records := got[i].Records[:cap(got[i].Records)]
		for j := range records {
			records[j] = mark
		}
		if other := got[1-i]; !reflect.DeepEqual(other, want[1-i]) {
			t.Errorf("P2: beside a list that was written into is %+v, want %+v", other, want[1-i])
		}
		clear(got[:cap(got)])
	}
	kept := x.Entries()
	x.world.Memory.Store(0, addressEntry("a", 2, 19, 7))
	askedOf(t, x, api.Message{Name: "a", Type: api.Address})
	x.Tick()
	if !reflect.DeepEqual(kept, want) {
		t.Errorf("P2: what came out earlier is now %+v", kept)
	}
}
