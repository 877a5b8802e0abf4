package signpost_test

import (
	"slices"
	"testing"

	"signpost/api"
	"signpost/signpost"
)

var mark = api.Record{Name: "MARK", Type: -1, Ttl: -1, Number: -1, Target: "MARK"}

// roomy lays a list into memory that has marked room behind it; the second
// list is all of that memory.
func roomy(list []api.Record) (short, whole []api.Record) {
	whole = slices.Concat(list, repeated(mark, 12))
	return whole[:len(list)], whole
}

// overwrite writes into a list and into its spare room.
func overwrite(list []api.Record) {
	for i := range list[:cap(list)] {
		list[:cap(list)][i] = mark
	}
	_ = append(list, mark)
}

func TestP2EncodeLeavesListsAndTheirSpareRoom(t *testing.T) {
	good, wrong := sample(), sample()
	wrong.More = []api.Record{bound("a", 0)}
	tooMany := sample()
	tooMany.Answer = repeated(bound("a", 1), 11)
	for _, m := range []api.Message{good, wrong, tooMany} {
		var answer, servers, more []api.Record
		given := m
		given.Answer, answer = roomy(m.Answer)
		given.Servers, servers = roomy(m.Servers)
		given.More, more = roomy(m.More)
		before := [][]api.Record{slices.Clone(answer), slices.Clone(servers), slices.Clone(more)}
		signpost.Encode(given)
		for i, list := range [][]api.Record{answer, servers, more} {
			if !slices.Equal(list, before[i]) {
				t.Errorf("P2: after Encode list %d is %+v, was %+v", i, list, before[i])
			}
		}
	}
}

func TestP2EncodeKeepsNothing(t *testing.T) {
	m := sample()
	first, _ := signpost.Encode(m)
	overwrite(m.Answer)
	overwrite(m.Servers)
	overwrite(m.More)
	again, e := signpost.Encode(sample())
	if again != first || e != api.OK {
		t.Errorf("P2: Encode once more = %q, %d, want %q", again, e, first)
	}
}

func TestP2ListsOfOneMessageShareNothing(t *testing.T) {
	for i := range 3 {
		m, _ := signpost.Decode(sampleBytes)
		want := sample()
		lists := []*[]api.Record{&m.Answer, &m.Servers, &m.More}
		overwrite(*lists[i])
		*lists[i] = *[]*[]api.Record{&want.Answer, &want.Servers, &want.More}[i]
		if !sameMessage(m, want) {
			t.Errorf("P2: with list %d written into, the others are %+v", i, m)
		}
	}
}

func TestP2ListsThatCameOutAreTheCallers(t *testing.T) {
	kept, _ := signpost.Decode(sampleBytes)
	for range 3 {
		m, e := signpost.Decode(sampleBytes)
		if !sameMessage(m, sample()) || e != api.OK {
			t.Errorf("P2: Decode once more = %+v, %d", m, e)
		}
		overwrite(m.Answer)
		overwrite(m.Servers)
		overwrite(m.More)
	}
	empty, _ := signpost.Decode("\x00\x00q\x00\x00\x00\x00\x00\x00")
	overwrite(empty.Answer)
	overwrite(empty.Servers)
	overwrite(empty.More)
	wantMessage(t, "\x00\x00q\x00\x00\x00\x00\x00\x00", api.Message{})
	signpost.Decode("\x00\x00q\x00\x00\x01\x01\x00\x00\x00\x04\x01\x00")
	signpost.Decode("")
	if !sameMessage(kept, sample()) {
		t.Errorf("P2: what came out first is now %+v", kept)
	}
}
