package signpost_test

import (
	"math"
	"reflect"
	"runtime"
	"strings"
	"testing"

	"signpost/api"
	"signpost/signpost"
)

// checkDecode holds what Decode answers against all that P1 and P3 say of any
// bytes.
func checkDecode(t *testing.T, s string) {
	t.Helper()
	m, e := signpost.Decode(s)
	if e == api.ErrForm {
		if !reflect.DeepEqual(m, api.Message{}) {
			t.Errorf("P1: Decode(%.300q) = %+v beside ErrForm", s, m)
		}
		return
	}
	if e != api.OK {
		t.Errorf("P1: Decode(%.300q) answers %d", s, e)
	}
	if len(s) > api.MaxPacket {
		t.Errorf("P3: Decode takes %d bytes", len(s))
	}
	written, e := signpost.Encode(m)
	if e != api.OK {
		t.Errorf("P3: Decode(%q) = %+v, which is no message", s, m)
	}
	if len(written) <= api.MaxPacket {
		wantMessage(t, written, m)
	}
}

func TestP1DecodeOfChangedBytes(t *testing.T) {
	for i := range len(sampleBytes) {
		for b := range 256 {
			checkDecode(t, sampleBytes[:i]+string([]byte{byte(b)})+sampleBytes[i+1:])
			checkDecode(t, sampleBytes[:i]+string([]byte{byte(b)})+sampleBytes[i:])
		}
		checkDecode(t, sampleBytes[:i]+sampleBytes[i+1:])
		checkDecode(t, sampleBytes[i:])
	}
}

func TestP1DecodeOfLongTexts(t *testing.T) {
	for _, part := range []string{"\x00", "\x01", "\x01a", "\xff", "\xff\x00", "\xff\x04", "q", "ä", sampleBytes} {
		for _, times := range []int{1, 10, 100, 999, 1000, 1001, 1 << 20} {
			text := strings.Repeat(part, times)
			checkDecode(t, text)
			checkDecode(t, "\x00\x00q\x00"+text)
			checkDecode(t, "\x00\x00r\x00\x00\x01\x0a\x0a\x0a"+text)
		}
	}
}

// A row of places each of which leads to the one below it, for as long as one
// byte can tell a place.
func TestP1DecodeOfALongRowOfPlaces(t *testing.T) {
	s := "\x00\x00q\x00\x00\x01\x0a\x0a\x0a"
	last := 4
	for range 30 {
		place := len(s)
		s += "\xff" + string([]byte{byte(last)}) + "\x02\x01\x00" + "\xff" + string([]byte{byte(place)})
		last = place + 5
	}
	m, e := signpost.Decode(s)
	if e != api.OK || !reflect.DeepEqual(m.More, repeated(server("", 1, ""), 10)) {
		t.Errorf("P1: Decode(%q) = %+v, %d", s, m, e)
	}
}

func TestP1EncodeOfWildNumbers(t *testing.T) {
	for _, n := range []int{math.MinInt, math.MinInt32, -256, -1, 65536, 1 << 16 << 16, 1<<32 + 1, math.MaxInt} {
		wantNoBytes(t, api.Message{ID: n})
		wantNoBytes(t, api.Message{Code: n})
		wantNoBytes(t, api.Message{Type: n})
		for _, r := range []api.Record{{Type: n, Ttl: 1}, bound("", n), address("", n, 1), address("", 1, n), server("", n, ""), alias("", n, ""),
			{Type: api.Server, Ttl: 1, Number: n}, {Type: api.Alias, Ttl: 1, Number: n}, {Type: api.Bound, Ttl: 1, Number: n}} {
			wantNoBytes(t, api.Message{Answer: []api.Record{r}})
		}
	}
}

func TestP1EncodeOfWildTexts(t *testing.T) {
	for _, part := range []string{"a", ".", "a.", "abcdef.", "\x00", "\xff", "ä"} {
		text := strings.Repeat(part, 1<<20)
		wantNoBytes(t, api.Message{Name: text})
		for _, r := range []api.Record{bound(text, 1), server("", 1, text), alias("", 1, text),
			{Type: api.Address, Ttl: 1, Target: text}, {Type: api.Bound, Ttl: 1, Target: text}} {
			wantNoBytes(t, api.Message{More: []api.Record{r}})
		}
	}
}

func TestP1EncodeOfLongLists(t *testing.T) {
	long := make([]api.Record, 1<<20)
	for i := range long {
		long[i] = bound("", 1)
	}
	wantNoBytes(t, api.Message{Answer: long})
	wantNoBytes(t, api.Message{Servers: long})
	wantNoBytes(t, api.Message{More: long})
	wantNoBytes(t, api.Message{ID: -1, Answer: long, Servers: long, More: long})
}

func TestP1NoGoroutineIsLeft(t *testing.T) {
	before := runtime.NumGoroutine()
	for range 100 {
		signpost.Encode(sample())
		signpost.Encode(api.Message{ID: -1})
		signpost.Decode(sampleBytes)
		signpost.Decode("")
	}
	if after := runtime.NumGoroutine(); after > before {
		t.Errorf("P1: %d goroutines before the calls, %d after them", before, after)
	}
}

func FuzzDecode(f *testing.F) {
	f.Add(sampleBytes)
	f.Add("")
	f.Fuzz(func(t *testing.T, s string) { checkDecode(t, s) })
}

// checkAsk holds what Ask answers, at any bytes, against what P1 and P5 say.
func checkAsk(t *testing.T, s string) {
	t.Helper()
	x := made(t, settings(9))
	n, e := x.Ask(s)
	if n != 0 {
		t.Errorf("P1: Ask(%.300q) = %d, %d", s, n, e)
	}
	if wantsReply := len(s) >= 4 && s[2] == 'q'; wantsReply != (e == api.OK) || !wantsReply && e != api.ErrShort {
		t.Errorf("P5: Ask(%.300q) answers %d", s, e)
	}
	sent, replies := x.Sent(0), x.Replies(0)
	if e != api.OK {
		if len(sent)+len(replies) != 0 {
			t.Errorf("P1: Ask(%.300q) answers %d and does something", s, e)
		}
		return
	}
	m, e := signpost.Decode(s)
	if e == api.OK && m.Code == 0 && len(m.Answer)+len(m.Servers)+len(m.More) == 0 && 1 <= m.Type && m.Type <= 3 {
		wantSent(t, x, 0, packet(t, 9, 1, m.Name, m.Type))
		wantReplies(t, x, 0)
	} else {
		wantSent(t, x, 0)
		wantReplies(t, x, 0, broken(0, s[:2]))
	}
}

func TestP1AskOfChangedBytes(t *testing.T) {
	for _, s := range []string{"\x05\x01q\x00\x01a\x02bc\x00\x01\x00\x00\x00", strings.Replace(sampleBytes, "r\x03", "q\x00", 1)} {
		checkAsk(t, s)
		for i := range len(s) {
			for b := range 256 {
				checkAsk(t, s[:i]+string([]byte{byte(b)})+s[i+1:])
				checkAsk(t, s[:i]+string([]byte{byte(b)})+s[i:])
			}
			checkAsk(t, s[:i])
			checkAsk(t, s[i:])
		}
	}
}

func TestP1AskOfLongTexts(t *testing.T) {
	for _, part := range []string{"\x00", "q", "\x01a", "\xff", "ä", sampleBytes} {
		text := strings.Repeat(part, 1<<20)
		checkAsk(t, text)
		checkAsk(t, "\x00\x00q\x00"+text)
	}
}

func TestP1CallsOfAResolverLeaveNoGoroutine(t *testing.T) {
	before := runtime.NumGoroutine()
	x := made(t, settings(9, 8))
	for range 100 {
		x.Ask(question(t, 5, "a.b", 1))
		x.Ask("\x05\x01q-")
		x.Ask("")
		x.Deliver()
		x.Tick()
		x.Sent(0)
		x.Replies(0)
		x.Entries()
	}
	if after := runtime.NumGoroutine(); after > before {
		t.Errorf("P1: %d goroutines before the calls, %d after them", before, after)
	}
}

// An error changes nothing: with and without calls that are refused, all goes
// the same way.
func TestP1ErrorsChangeNothing(t *testing.T) {
	x, y := made(t, settings(9, 8)), made(t, settings(9, 8))
	for i := range 40 {
		n, e := x.Ask(question(t, i, "a", 1))
		wantNoAsk(t, y, "\x00\x00q", api.ErrShort)
		wantNoAsk(t, y, "\x00\x00r\x00", api.ErrShort)
		if e == api.OK {
			wantAsk(t, y, question(t, i, "a", 1), n)
		} else {
			wantNoAsk(t, y, question(t, i, "b", 2), e)
			wantNoAsk(t, y, "\x00\x00q\x00", e)
		}
		x.Tick()
		y.Tick()
		wantSent(t, y, 0, x.Sent(0)...)
		wantReplies(t, y, 0, x.Replies(0)...)
	}
}
