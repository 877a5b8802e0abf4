package signpost_test

import (
	"math"
	"reflect"
	"runtime"
	"strings"
	"testing"
	"time"

	"signpost/api"
	"signpost/signpost"
)

// checkDeliver holds what comes of any bytes, from the address that was asked
// for a.bc, against what P1 and P6 say.
func checkDeliver(t *testing.T, s string) {
	t.Helper()
	c := patient()
	c.Entries = 4
	x := made(t, c)
	wantAsk(t, x, question(t, clientID, "a.bc", api.Address), 0)
	x.Deliver(api.Packet{Address: 9, Bytes: s})
	m, e := signpost.Decode(s)
	fits := e == api.OK && m.Reply && m.ID == 1 && m.Name == "a.bc" && m.Type == api.Address
	if did := len(x.Sent(0))+len(x.Replies(0)) > 1; did != fits {
		t.Errorf("P6: Deliver(%.300q) comes to %+v, %+v", s, x.Sent(0), x.Replies(0))
	}
	if entries := x.Entries(); len(entries) > 4 || !fits && len(entries) > 0 {
		t.Errorf("P6: Deliver(%.300q) comes to %+v", s, entries)
	}
	for range api.MaxSends * c.Patience {
		x.Tick()
	}
	if len(x.Replies(0)) != 1 {
		t.Errorf("P8: after Deliver(%.300q) there are %d replies", s, len(x.Replies(0)))
	}
}

// replyBytes are samples of replies to a.bc, with the ID 1.
func replyBytes(t *testing.T) []string {
	t.Helper()
	m := sample()
	m.ID = 1
	way := api.Message{ID: 1, Reply: true, Name: "a.bc", Type: api.Address, Servers: list(server("bc", 9, "n.bc"), bound("", 5)), More: list(address("n.bc", 5, 1))}
	return []string{strings.Replace(sampleBytes, "\x02\x01r", "\x01\x00r", 1), bytesOf(t, m), bytesOf(t, way)}
}

func TestP1DeliverOfChangedBytes(t *testing.T) {
	for _, s := range replyBytes(t) {
		checkDeliver(t, s)
		for i := range len(s) {
			for b := 0; b < 256; b += 3 {
				checkDeliver(t, s[:i]+string([]byte{byte(b)})+s[i+1:])
			}
			checkDeliver(t, s[:i])
			checkDeliver(t, s[i:])
			checkDeliver(t, s[:i]+s[i+1:])
		}
	}
}

func TestP1DeliverOfLongTextsAndWildAddresses(t *testing.T) {
	x := made(t, patient())
	wantAsk(t, x, question(t, clientID, "a.bc", api.Address), 0)
	for _, part := range []string{"\x00", "r", "\x01a", "\xff", "\xff\x04", "ä", sampleBytes} {
		text := strings.Repeat(part, 1<<18)
		checkDeliver(t, text)
		checkDeliver(t, "\x01\x00r\x00\x01a\x02bc\x00\x01\x0a\x0a\x0a"+text)
		for _, from := range []int{math.MinInt, -1, 0, 9, 256, math.MaxInt} {
			x.Deliver(api.Packet{Address: from, Bytes: text})
		}
	}
	for _, s := range replyBytes(t) {
		for _, from := range []int{math.MinInt, math.MinInt32, -9, -1, 0, 8, 10, 255, 256, 265, math.MaxInt32, math.MaxInt} {
			x.Deliver(api.Packet{Address: from, Bytes: s})
		}
	}
	wantSent(t, x, 1)
	wantReplies(t, x, 0)
}

// Lists of any length: those that fit stand at the very end.
func TestP1DeliverOfLongLists(t *testing.T) {
	for _, count := range []int{0, 1, 2, 255, 256, 257, 511, 512, 513, 1 << 17} {
		d := talk(t, patient())
		d.ask("a", api.Address)
		d.sends(9, "a", api.Address)
		packets := make([]api.Packet, count, count+1)
		for i := range packets {
			packets[i] = api.Packet{Address: 9, Bytes: sampleBytes}
		}
		d.x.Deliver(packets...)
		d.quiet()
		d.x.Deliver(append(packets, replyTo(t, d.last, api.Message{Answer: list(address("a", 5, 1))}))...)
		d.tells("a", api.Address, api.Fine, address("a", 5, 1))
	}
}

func TestP1DeliverLeavesNoGoroutine(t *testing.T) {
	before := runtime.NumGoroutine()
	x := made(t, patient())
	wantAsk(t, x, question(t, clientID, "a.bc", api.Address), 0)
	for range 50 {
		for _, s := range replyBytes(t) {
			x.Deliver(api.Packet{}, api.Packet{Address: 9, Bytes: s}, api.Packet{Address: 9, Bytes: s[1:]}, api.Packet{Bytes: strings.Repeat(s, 1000)})
		}
	}
	// One that has said that it is done may still be about to go.
	for range 2000 {
		if runtime.NumGoroutine() <= before {
			return
		}
		time.Sleep(time.Millisecond)
	}
	t.Errorf("P1: %d goroutines before the calls, %d after them", before, runtime.NumGoroutine())
}

// How goroutines run is not to be seen: the same calls come to the same.
func TestP1DeliverComesToTheSameEachTime(t *testing.T) {
	run := func() (*signpost.Resolver, []api.Packet) {
		x := made(t, patient())
		var packets []api.Packet
		for i := range 8 {
			name := string([]byte{byte('a' + i)})
			wantAsk(t, x, question(t, clientID, name, api.Address), i)
			for j := range 40 {
				m := api.Message{ID: i + 1, Reply: true, Name: name, Type: api.Address, Answer: list(address(name, 5+j, j))}
				packets = append([]api.Packet{{Address: 9, Bytes: bytesOf(t, m)}}, packets...)
			}
		}
		x.Deliver(packets...)
		return x, packets
	}
	first, _ := run()
	for range 30 {
		x, _ := run()
		wantSent(t, x, 0, first.Sent(0)...)
		wantReplies(t, x, 0, first.Replies(0)...)
		if !reflect.DeepEqual(x.Entries(), first.Entries()) {
			t.Fatalf("P1: Entries() = %+v, want %+v", x.Entries(), first.Entries())
		}
	}
}

func FuzzDeliver(f *testing.F) {
	f.Add(sampleBytes)
	f.Add("\x01\x00r\x00\x01a\x02bc\x00\x01\x00\x01\x01\x02bc\x00\x02\x05\x00\x01n\xff\x06\x01n\xff\x06\x01\x05\x00\x01")
	f.Fuzz(func(t *testing.T, s string) { checkDeliver(t, s) })
}
