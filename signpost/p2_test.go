package signpost_test

import (
	"slices"
	"testing"

	"signpost/api"
	"signpost/signpost"
)

var mark = api.Record{Name: "MARK", Type: -1, Ttl: -1, Number: -1, Target: "MARK"}

// roomy lays a list into memory that has marked room behind it; the second
// list is all of that memory.
func roomy(list []api.Record) (short, whole []api.Record) {
	whole = slices.Concat(list, repeated(mark, 12))
	return whole[:len(list)], whole
}

// overwrite writes into a list and into its spare room.
func overwrite(list []api.Record) {
	for i := range list[:cap(list)] {
		list[:cap(list)][i] = mark
	}
	_ = append(list, mark)
}

func TestP2EncodeLeavesListsAndTheirSpareRoom(t *testing.T) {
	good, wrong := sample(), sample()
	wrong.More = []api.Record{bound("a", 0)}
	tooMany := sample()
	tooMany.Answer = repeated(bound("a", 1), 11)
	for _, m := range []api.Message{good, wrong, tooMany} {
		var answer, servers, more []api.Record
		given := m
		given.Answer, answer = roomy(m.Answer)
		given.Servers, servers = roomy(m.Servers)
		given.More, more = roomy(m.More)
		before := [][]api.Record{slices.Clone(answer), slices.Clone(servers), slices.Clone(more)}
		signpost.Encode(given)
		for i, list := range [][]api.Record{answer, servers, more} {
			if !slices.Equal(list, before[i]) {
				t.Errorf("P2: after Encode list %d is %+v, was %+v", i, list, before[i])
			}
		}
	}
}

func TestP2EncodeKeepsNothing(t *testing.T) {
	m := sample()
	first, _ := signpost.Encode(m)
	overwrite(m.Answer)
	overwrite(m.Servers)
	overwrite(m.More)
	again, e := signpost.Encode(sample())
	if again != first || e != api.OK {
		t.Errorf("P2: Encode once more = %q, %d, want %q", again, e, first)
	}
}

func TestP2ListsOfOneMessageShareNothing(t *testing.T) {
	for i := range 3 {
		m, _ := signpost.Decode(sampleBytes)
		want := sample()
		lists := []*[]api.Record{&m.Answer, &m.Servers, &m.More}
		overwrite(*lists[i])
		*lists[i] = *[]*[]api.Record{&want.Answer, &want.Servers, &want.More}[i]
		if !sameMessage(m, want) {
			t.Errorf("P2: with list %d written into, the others are %+v", i, m)
		}
	}
}

func TestP2ListsThatCameOutAreTheCallers(t *testing.T) {
	kept, _ := signpost.Decode(sampleBytes)
	for range 3 {
		m, e := signpost.Decode(sampleBytes)
		if !sameMessage(m, sample()) || e != api.OK {
			t.Errorf("P2: Decode once more = %+v, %d", m, e)
		}
		overwrite(m.Answer)
		overwrite(m.Servers)
		overwrite(m.More)
	}
	empty, _ := signpost.Decode("\x00\x00q\x00\x00\x00\x00\x00\x00")
	overwrite(empty.Answer)
	overwrite(empty.Servers)
	overwrite(empty.More)
	wantMessage(t, "\x00\x00q\x00\x00\x00\x00\x00\x00", api.Message{})
	signpost.Decode("\x00\x00q\x00\x00\x01\x01\x00\x00\x00\x04\x01\x00")
	signpost.Decode("")
	if !sameMessage(kept, sample()) {
		t.Errorf("P2: what came out first is now %+v", kept)
	}
}

func TestP2HintsAreNotWrittenIntoNorKept(t *testing.T) {
	whole := []int{9, 8, -5, -6, -7}
	x := made(t, settings(whole[:2]...))
	c := settings()
	c.Hints = whole[:2]
	y := made(t, c)
	c.Hints = whole[2:4]
	wantNone(t, c)
	wantAsk(t, y, question(t, 5, "a", 1), 0)
	if !slices.Equal(whole, []int{9, 8, -5, -6, -7}) {
		t.Errorf("P2: the hints and what lies behind them are now %v", whole)
	}
	for i := range whole {
		whole[i] = 77
	}
	wantAsk(t, x, question(t, 5, "a", 1), 0)
	ticks(x, 6)
	ticks(y, 6)
	want := []api.Packet{packet(t, 9, 1, "a", 1), packet(t, 9, 2, "a", 1), packet(t, 8, 3, "a", 1)}
	wantSent(t, x, 0, want...)
	wantSent(t, y, 0, want...)
}

// scribble writes into a list and into its spare room.
func scribble[T any](list []T, with T) {
	whole := list[:cap(list)]
	for i := range whole {
		whole[i] = with
	}
	_ = append(list, with)
}

func TestP2SentAndRepliesThatCameOutAreTheCallers(t *testing.T) {
	x := made(t, settings(9))
	wantAsk(t, x, "\x05\x01q-", 0)
	wantAsk(t, x, question(t, 5, "a", 1), 1)
	sent := []api.Packet{packet(t, 9, 1, "a", 1), packet(t, 9, 2, "a", 1)}
	replies := []api.Reply{broken(0, "\x05\x01"), failed(t, 1, 5, "a", 1)}
	for n := range 7 {
		for _, from := range []int{-1, 0, 1, 2, 3} {
			scribble(x.Sent(from), api.Packet{Address: -1, Bytes: "MARK"})
			scribble(x.Replies(from), api.Reply{Number: -1, Bytes: "MARK"})
			scribble(x.Entries(), api.Entry{Name: "MARK"})
		}
		wantSent(t, x, 0, sent[:1+min(n/3, 1)]...)
		wantReplies(t, x, 0, replies[:1+n/6]...)
		x.Tick()
	}
}

func TestP2ListsThatCameOutStayAsTheyAre(t *testing.T) {
	x := made(t, settings(9))
	var sents [][]api.Packet
	var replies [][]api.Reply
	for range 60 {
		x.Ask(question(t, 5, "a", 1))
		x.Ask("\x05\x01q-")
		x.Tick()
		sents = append(sents, x.Sent(0))
		replies = append(replies, x.Replies(0))
	}
	lastSent, lastReplies := x.Sent(0), x.Replies(0)
	for i := range sents {
		if !slices.Equal(sents[i], lastSent[:len(sents[i])]) || !slices.Equal(replies[i], lastReplies[:len(replies[i])]) {
			t.Errorf("P2: what came out after %d ticks was changed later", i+1)
		}
	}
}

func TestP2ResolversDoNotTouchOneAnother(t *testing.T) {
	c := settings(9, 8)
	x, y := made(t, c), made(t, c)
	for i := range 8 {
		wantAsk(t, x, question(t, 5, "a", 1), i)
	}
	ticks(x, 4)
	wantSent(t, y, 0)
	wantReplies(t, y, 0)
	wantAsk(t, y, question(t, 6, "b", 2), 0)
	wantSent(t, y, 0, packet(t, 9, 1, "b", 2))
	ticks(y, 2)
	wantSent(t, y, 1)
	if got := len(x.Sent(0)); got != 16 {
		t.Errorf("P2: %d packets were sent, want 16", got)
	}
}
