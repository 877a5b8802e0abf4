package signpost_test

import (
	"reflect"
	"slices"
	"testing"

	"signpost/api"
	"signpost/signpost"
)

var packetMark = api.Packet{Address: 9, Bytes: "MARK"}

// conversation asks for a.b, which comes to an alias, servers, addresses and a
// bound; each packet is handed over by deliver.
func conversation(t *testing.T, deliver func(x *signpost.Resolver, packets ...api.Packet)) *dialog {
	t.Helper()
	d := talk(t, patient())
	say := func(m api.Message) {
		t.Helper()
		deliver(d.x, api.Packet{Address: 8, Bytes: sampleBytes}, replyTo(t, d.last, m), api.Packet{Address: 9, Bytes: "junk"})
	}
	d.ask("a.b", api.Address)
	d.sends(9, "a.b", api.Address)
	say(api.Message{Servers: list(server("b", 50, "n.b"), server("b", 50, "m.b")), More: list(address("n.b", 50, 7), address("n.b", 50, 8), address("m.b", 50, 6))})
	d.sends(7, "a.b", api.Address)
	say(api.Message{Answer: list(alias("a.b", 40, "c.b"))})
	d.sends(7, "c.b", api.Address)
	say(api.Message{Answer: list(address("c.b", 30, 1), address("c.b", 30, 2), address("c.b", 30, 3))})
	d.tells("a.b", api.Address, api.Fine, alias("a.b", 40, "c.b"), address("c.b", 30, 1), address("c.b", 30, 2), address("c.b", 30, 3))
	d.ask("d.b", api.Address)
	d.sends(7, "d.b", api.Address)
	say(api.Message{Code: api.Unknown, Servers: list(bound("b", 20))})
	d.tells("d.b", api.Address, api.Unknown)
	return d
}

func conversationEntries() []api.Entry {
	return []api.Entry{
		entryOf(2, 40, alias("a.b", 40, "c.b")),
		entryOf(1, 50, server("b", 50, "n.b"), server("b", 50, "m.b")),
		entryOf(2, 30, address("c.b", 30, 1), address("c.b", 30, 2), address("c.b", 30, 3)),
		noneOf("d.b", 0, 20),
		entryOf(1, 50, address("m.b", 50, 6)),
		entryOf(1, 50, address("n.b", 50, 7), address("n.b", 50, 8)),
	}
}

// The list has spare room, which stays as it was; behind the call all of it is
// written into.
func TestP2PacketsAreNotWrittenIntoNorKept(t *testing.T) {
	d := conversation(t, func(x *signpost.Resolver, packets ...api.Packet) {
		whole := append(slices.Clone(packets), packetMark, packetMark, packetMark)
		before := slices.Clone(whole)
		given := whole[:len(packets)]
		x.Deliver(given...)
		if !slices.Equal(whole, before) {
			t.Errorf("P2: after Deliver the packets and their spare room are %+v, were %+v", whole, before)
		}
		scribble(given, api.Packet{Address: 9, Bytes: bytesOf(t, api.Message{ID: 1, Reply: true, Code: api.Failed})})
	})
	d.remembers(conversationEntries()...)
}

func TestP2EntriesThatCameOutAreTheCallersAlone(t *testing.T) {
	d := conversation(t, func(x *signpost.Resolver, packets ...api.Packet) {
		x.Deliver(packets...)
		for i := range x.Entries() {
			entries := x.Entries()
			scribble(entries[i].Records, mark)
			for j, e := range x.Entries() {
				if i != j && !reflect.DeepEqual(entries[j], e) {
					t.Errorf("P2: with the list of entry %d written into, entry %d is %+v", i, j, entries[j])
				}
			}
			scribble(entries, api.Entry{Name: "MARK"})
		}
		scribble(x.Sent(0), packetMark)
		scribble(x.Replies(0), api.Reply{Number: -1, Bytes: "MARK"})
	})
	d.remembers(conversationEntries()...)
	// Lists that came out earlier are not changed by what is stored later.
	kept, sent, replies := d.x.Entries(), d.x.Sent(0), d.x.Replies(0)
	ticks(d.x, 45)
	for _, name := range []string{"a.b", "c.b", "d.b"} {
		d.ask(name, api.Address)
		d.sends(7, name, api.Address)
		d.hears(api.Message{Answer: list(address(name, 9, 99), address(name, 9, 98))})
		d.tells(name, api.Address, api.Fine, address(name, 9, 99), address(name, 9, 98))
	}
	if !reflect.DeepEqual(kept, conversationEntries()) {
		t.Errorf("P2: what came out earlier is now %+v", kept)
	}
	if !slices.Equal(sent, d.x.Sent(0)[:len(sent)]) || !slices.Equal(replies, d.x.Replies(0)[:len(replies)]) {
		t.Errorf("P2: what came out earlier is now %+v, %+v", sent, replies)
	}
}

// What one is told, another one does not know.
func TestP2ResolversRememberEachOnItsOwn(t *testing.T) {
	other := talk(t, patient())
	conversation(t, func(x *signpost.Resolver, packets ...api.Packet) { x.Deliver(packets...) })
	other.remembers()
	other.ask("a.b", api.Address)
	other.sends(9, "a.b", api.Address)
}
