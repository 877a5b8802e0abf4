package signpost_test

import (
	"fmt"
	"strings"
	"testing"

	"signpost/api"
)

// wrongPackets fit not quite to the question a.b and Address with the ID 1
// that was sent to 9, though they all know an answer.
func wrongPackets(t *testing.T) []api.Packet {
	t.Helper()
	said := api.Message{ID: 1, Reply: true, Name: "a.b", Type: api.Address, Answer: list(address("a.b", 9, 1), address("b", 9, 1), address("a.a.b", 9, 1), address("", 9, 1))}
	var wrong []api.Packet
	for _, from := range []int{8, 10, 0, -1, 9 + 256, -9, 9 << 32} {
		wrong = append(wrong, api.Packet{Address: from, Bytes: bytesOf(t, said)})
	}
	for _, change := range []func(m *api.Message){
		func(m *api.Message) { m.ID = 0 }, func(m *api.Message) { m.ID = 2 }, func(m *api.Message) { m.ID = 257 }, func(m *api.Message) { m.ID = 65535 },
		func(m *api.Message) { m.Name = "b" }, func(m *api.Message) { m.Name = "" }, func(m *api.Message) { m.Name = "a.a.b" }, func(m *api.Message) { m.Name = "b.a" },
		func(m *api.Message) { m.Type = 0 }, func(m *api.Message) { m.Type = api.Server }, func(m *api.Message) { m.Type = api.Alias }, func(m *api.Message) { m.Type = api.Bound },
		func(m *api.Message) { m.Reply = false }, func(m *api.Message) { m.Reply, m.Answer = false, nil },
	} {
		m := said
		change(&m)
		wrong = append(wrong, api.Packet{Address: 9, Bytes: bytesOf(t, m)})
	}
	right := bytesOf(t, said)
	for i := range len(right) {
		wrong = append(wrong, api.Packet{Address: 9, Bytes: right[:i]})
	}
	for _, s := range []string{right + "\x00", right + right, "\x00" + right, strings.Replace(right, "r", "R", 1), strings.Replace(right, "r\x00", "r\x04", 1),
		strings.Replace(right, "a", "-", 1), strings.Replace(right, "\x01a", "\xff\x04", 1), right + strings.Repeat("\x00", 1000), strings.Repeat("\x00", 1<<20)} {
		wrong = append(wrong, api.Packet{Address: 9, Bytes: s})
	}
	return wrong
}

func TestP6NothingComesOfWhatDoesNotFit(t *testing.T) {
	d := talk(t, patient())
	d.x.Deliver(wrongPackets(t)...)
	d.ask("a.b", api.Address)
	d.sends(9, "a.b", api.Address)
	for _, p := range wrongPackets(t) {
		d.x.Deliver(p)
		d.quiet()
	}
	d.x.Deliver(wrongPackets(t)...)
	d.quiet()
	d.remembers()
	ticks(d.x, 19)
	d.quiet()
	d.x.Deliver(append(wrongPackets(t), replyTo(t, d.last, api.Message{Answer: list(address("a.b", 20, 2))}))...)
	d.tells("a.b", api.Address, api.Fine, address("a.b", 1, 2))
	d.remembers(entryOf(2, 20, address("a.b", 20, 2)))
}

// However the reply is written: with large letters, and names that go on with
// earlier ones.
func TestP6HoweverTheReplyIsWritten(t *testing.T) {
	d := talk(t, patient())
	d.ask("a.b", api.Address)
	d.sends(9, "a.b", api.Address)
	d.x.Deliver(api.Packet{Address: 9, Bytes: "\x01\x00r\x00\x01A\x01b\x00\x01\x01\x00\x00\xff\x04\x01\x05\x00\x07"})
	d.tells("a.b", api.Address, api.Fine, address("a.b", 5, 7))
}

func TestP6RepliesWithBrokenOrFailed(t *testing.T) {
	for _, code := range []int{api.Broken, api.Failed} {
		c := patient()
		c.Hints, c.Tries = []int{9, 8}, 2
		d := talk(t, c)
		d.ask("a.b", api.Address)
		said := api.Message{Code: code, Answer: list(address("a.b", 9, 1)), Servers: list(server("b", 9, "n.b"), bound("b", 9)), More: list(address("n.b", 9, 1))}
		for i := range 4 {
			d.sends(9-i/2, "a.b", api.Address)
			d.hears(said)
			d.remembers()
			said.Answer = nil
		}
		d.tells("a.b", api.Address, api.Failed)
	}
}

// A question that has waited long enough is given up: its reply is nothing any
// more, though the task waits for another one.
func TestP6RepliesOfATaskThatWaitsNoMore(t *testing.T) {
	c := patient()
	c.Tries, c.Patience = 2, 3
	d := talk(t, c)
	d.ask("a", api.Address)
	d.sends(9, "a", api.Address)
	first := replyTo(t, d.last, api.Message{Answer: list(address("a", 900, 1))})
	ticks(d.x, 3)
	d.sends(9, "a", api.Address)
	second := replyTo(t, d.last, api.Message{Answer: list(address("a", 900, 2))})
	d.x.Deliver(first)
	d.quiet()
	ticks(d.x, 2)
	d.x.Deliver(first, second, first, second)
	d.tells("a", api.Address, api.Fine, address("a", 898, 2))
	d.x.Deliver(first, second)
	d.quiet()
	d.remembers(entryOf(2, 903, address("a", 900, 2)))
	d.ask("b", api.Address)
	d.sends(9, "b", api.Address)
	late := replyTo(t, d.last, api.Message{Answer: list(address("b", 900, 1))})
	ticks(d.x, 3)
	d.sends(9, "b", api.Address)
	ticks(d.x, 3)
	d.tells("b", api.Address, api.Failed)
	d.x.Deliver(late)
	d.quiet()
	d.remembers(entryOf(2, 903, address("a", 900, 2)))
}

func TestP6RecordsThatAreNotWithinTheZone(t *testing.T) {
	d := talk(t, patient())
	d.ask("x.a.b", api.Address)
	d.sends(9, "x.a.b", api.Address)
	d.hears(api.Message{Servers: list(server("b", 900, "n.b")), More: list(address("n.b", 900, 7))})
	d.sends(7, "x.a.b", api.Address)
	d.hears(api.Message{Answer: list(address("x.a", 9, 1), address("", 9, 1), address("a", 9, 1)), Servers: list(server("", 9, "n.b"), bound("", 9), server("c", 9, "n.c"), bound("c", 9)), More: list(address("n.c", 9, 1))})
	d.tells("x.a.b", api.Address, api.Failed)
	d.remembers(entryOf(1, 900, server("b", 900, "n.b")), entryOf(1, 900, address("n.b", 900, 7)))
	d.ask("y.a.b", api.Address)
	d.sends(7, "y.a.b", api.Address)
	// A server elsewhere may be named, but its address is not believed.
	d.hears(api.Message{Servers: list(server("a.b", 9, "n.c")), More: list(address("n.c", 9, 1), address("n.b", 9, 2))})
	d.sends(9, "n.c", api.Address)
	d.remembers(entryOf(1, 9, server("a.b", 9, "n.c")), entryOf(1, 900, server("b", 900, "n.b")), entryOf(1, 900, address("n.b", 900, 7)))
}

// Packets of one call are acted on in their order: the second one may answer
// what the first one made be sent.
func TestP6PacketsInOrder(t *testing.T) {
	way := api.Message{Servers: list(server("b", 50, "n.b")), More: list(address("n.b", 50, 7))}
	first := func(d *dialog) api.Packet { return replyTo(t, d.last, way) }
	second := replyTo(t, packet(t, 7, 2, "a.b", api.Address), api.Message{Answer: list(address("a.b", 5, 1))})
	d := talk(t, patient())
	d.ask("a.b", api.Address)
	d.sends(9, "a.b", api.Address)
	d.x.Deliver(second, first(d))
	d.sends(7, "a.b", api.Address)
	d.x.Deliver(second)
	d.tells("a.b", api.Address, api.Fine, address("a.b", 5, 1))
	d = talk(t, patient())
	d.ask("a.b", api.Address)
	d.sends(9, "a.b", api.Address)
	d.x.Deliver(first(d), second)
	wantSent(t, d.x, 1, packet(t, 7, 2, "a.b", api.Address))
	d.sent = 2
	d.tells("a.b", api.Address, api.Fine, address("a.b", 5, 1))
}

// Of two replies to one question the first one counts.
func TestP6TheFirstReplyCounts(t *testing.T) {
	for i := range 20 {
		d := talk(t, patient())
		d.ask("a", api.Address)
		d.sends(9, "a", api.Address)
		var packets []api.Packet
		for j := range 20 {
			packets = append(packets, replyTo(t, d.last, api.Message{Answer: list(address("a", 5, 10*i+j))}))
		}
		d.x.Deliver(packets...)
		d.tells("a", api.Address, api.Fine, address("a", 5, 10*i))
	}
}

// Eight replies among thousands of packets that are nothing.
func TestP6ManyPacketsAtOneTime(t *testing.T) {
	d := talk(t, patient())
	var packets []api.Packet
	var want []api.Reply
	for i := range 8 {
		name := string([]byte{byte('a' + i)})
		d.ask(name, api.Address)
		d.sends(9, name, api.Address)
		for j := range 999 {
			packets = append(packets, api.Packet{Address: j, Bytes: fmt.Sprint("junk", j)})
		}
		packets = append(packets, replyTo(t, d.last, api.Message{Answer: list(address(name, 5, i))}))
		told := api.Message{ID: clientID, Reply: true, Name: name, Type: api.Address, Answer: list(address(name, 5, i))}
		want = append(want, api.Reply{Number: i, Bytes: bytesOf(t, told)})
	}
	d.x.Deliver(packets...)
	wantReplies(t, d.x, 0, want...)
}

// A task that goes on keeps its place among those that wait.
func TestP6ATaskThatGoesOnKeepsItsPlace(t *testing.T) {
	c := patient()
	c.Patience = 2
	d := talk(t, c)
	for _, name := range []string{"a", "b", "c", "d"} {
		d.ask(name, api.Address)
		d.sends(9, name, api.Address)
	}
	d.x.Deliver(replyTo(t, packet(t, 9, 1, "a", 1), api.Message{Answer: list(alias("a", 90, "z"))}))
	d.sends(9, "z", api.Address)
	d.x.Deliver(replyTo(t, packet(t, 9, 2, "b", 1), api.Message{Code: api.Failed}))
	d.tells("b", api.Address, api.Failed)
	ticks(d.x, 2)
	wantReplies(t, d.x, 1, failed(t, 0, clientID, "a", 1), failed(t, 2, clientID, "c", 1), failed(t, 3, clientID, "d", 1))
}

// The patience begins anew with each question that is sent.
func TestP6PatienceAfterAReply(t *testing.T) {
	c := patient()
	c.Patience = 3
	d := talk(t, c)
	d.ask("a", api.Address)
	d.sends(9, "a", api.Address)
	ticks(d.x, 2)
	d.hears(api.Message{Answer: list(alias("a", 90, "b"))})
	d.sends(9, "b", api.Address)
	ticks(d.x, 2)
	d.quiet()
	d.x.Tick()
	d.tells("a", api.Address, api.Failed)
}

// When IDs have gone round, two tasks may wait for the same: the reply is that
// of the one that was begun first.
func TestP6TwoTasksThatWaitForTheSame(t *testing.T) {
	d := talk(t, patient())
	d.ask("a", api.Address)
	d.sends(9, "a", api.Address)
	first := d.last
	refuse := func(id int) {
		name := "b"
		d.ask(name, api.Address)
		d.x.Deliver(replyTo(t, packet(t, 9, id, name, api.Address), api.Message{Code: api.Failed}))
		d.sent, d.told = d.sent+1, d.told+1
	}
	for id := 2; id <= 65536; id++ {
		refuse(id % 65536)
	}
	d.quiet()
	d.ask("a", api.Address)
	d.sends(9, "a", api.Address)
	if d.last != first {
		t.Fatalf("P6: sent was %+v, want %+v once more", d.last, first)
	}
	d.hears(api.Message{Answer: list(address("a", 5, 1))})
	d.tells("a", api.Address, api.Fine, address("a", 5, 1))
	if replies := d.x.Replies(d.told - 1); replies[0].Number != 0 {
		t.Errorf("P6: the reply is that to question %d", replies[0].Number)
	}
	d.hears(api.Message{Answer: list(address("a", 5, 2))})
	d.tells("a", api.Address, api.Fine, address("a", 5, 2))
}
