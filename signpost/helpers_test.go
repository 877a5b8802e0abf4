package signpost_test

import (
	"fmt"
	"reflect"
	"slices"
	"testing"

	"signpost/api"
	"signpost/signpost"
)

const (
	longName = "uvwxyz.abcdef.ghijkl.mnopqr.stuvwx"

	// The question a.bc (its name at byte 4, bc at 6, the root at 9), three
	// records of Answer, one of Servers, one of More.
	sampleBytes = "\x02\x01r\x03\x01a\x02bc\x00\x01\x03\x01\x01" +
		"\xff\x04\x01\x01\x00\xff" +
		"\x01x\xff\x06\x03\xe8\x03\xff\x04" +
		"\x00\x01\x00\x01\x00" +
		"\x02BC\x00\x02\x02\x01\x02ns\xff\x06" +
		"\xff\x09\x04\x07\x00"
)

func sample() api.Message {
	return api.Message{ID: 258, Reply: true, Code: api.Unknown, Name: "a.bc", Type: api.Address,
		Answer:  []api.Record{address("a.bc", 1, 255), alias("x.bc", 1000, "a.bc"), address("", 256, 0)},
		Servers: []api.Record{server("bc", 258, "ns.bc")},
		More:    []api.Record{bound("", 7)}}
}

func address(name string, ttl, number int) api.Record {
	return api.Record{Name: name, Type: api.Address, Ttl: ttl, Number: number}
}

func server(name string, ttl int, target string) api.Record {
	return api.Record{Name: name, Type: api.Server, Ttl: ttl, Target: target}
}

func alias(name string, ttl int, target string) api.Record {
	return api.Record{Name: name, Type: api.Alias, Ttl: ttl, Target: target}
}

func bound(name string, ttl int) api.Record {
	return api.Record{Name: name, Type: api.Bound, Ttl: ttl}
}

func repeated(r api.Record, times int) []api.Record {
	var list []api.Record
	for range times {
		list = append(list, r)
	}
	return list
}

func sameMessage(a, b api.Message) bool {
	if !sameList(a.Answer, b.Answer) || !sameList(a.Servers, b.Servers) || !sameList(a.More, b.More) {
		return false
	}
	a.Answer, a.Servers, a.More = b.Answer, b.Servers, b.More
	return reflect.DeepEqual(a, b)
}

func sameList(a, b []api.Record) bool {
	return len(a) == 0 && len(b) == 0 || reflect.DeepEqual(a, b)
}

// short keeps the words of a failed test readable, whatever was handed in.
func short(m api.Message) string {
	return fmt.Sprintf("ID %d, code %d, name %.40q, type %d, lists of %d, %d, %d records",
		m.ID, m.Code, m.Name, m.Type, len(m.Answer), len(m.Servers), len(m.More))
}

func wantBytes(t *testing.T, m api.Message, want string) {
	t.Helper()
	if s, e := signpost.Encode(m); s != want || e != api.OK {
		t.Errorf("Encode(%+v) = %q, %d, want %q", m, s, e, want)
	}
}

func wantNoBytes(t *testing.T, m api.Message) {
	t.Helper()
	if s, e := signpost.Encode(m); s != "" || e != api.ErrArg {
		t.Errorf("Encode(%s) = %q, %d, want ErrArg", short(m), s, e)
	}
}

func wantMessage(t *testing.T, s string, want api.Message) {
	t.Helper()
	if m, e := signpost.Decode(s); !sameMessage(m, want) || e != api.OK {
		t.Errorf("Decode(%q) = %+v, %d, want %+v", s, m, e, want)
	}
}

func wantNoMessage(t *testing.T, s string) {
	t.Helper()
	if m, e := signpost.Decode(s); !reflect.DeepEqual(m, api.Message{}) || e != api.ErrForm {
		t.Errorf("Decode(%.300q) = %+v, %d, want ErrForm", s, m, e)
	}
}

// settings are those of a resolver with these hints, two tries and a patience
// of three ticks.
func settings(hints ...int) api.Config {
	return api.Config{Hints: hints, Entries: 8, Tries: 2, Patience: 3, MaxTtl: 100}
}

func made(t *testing.T, c api.Config) *signpost.Resolver {
	t.Helper()
	x, e := signpost.New(c)
	if x == nil || e != api.OK {
		t.Fatalf("New(%+v) = %v, %d", c, x, e)
	}
	return x
}

func bytesOf(t *testing.T, m api.Message) string {
	t.Helper()
	s, e := signpost.Encode(m)
	if e != api.OK {
		t.Fatalf("Encode(%s) = %d", short(m), e)
	}
	return s
}

func question(t *testing.T, id int, name string, kind int) string {
	t.Helper()
	return bytesOf(t, api.Message{ID: id, Name: name, Type: kind})
}

func packet(t *testing.T, address, id int, name string, kind int) api.Packet {
	t.Helper()
	return api.Packet{Address: address, Bytes: question(t, id, name, kind)}
}

func failed(t *testing.T, number, id int, name string, kind int) api.Reply {
	t.Helper()
	return api.Reply{Number: number, Bytes: bytesOf(t, api.Message{ID: id, Reply: true, Code: api.Failed, Name: name, Type: kind})}
}

func ticks(x *signpost.Resolver, count int) {
	for range count {
		x.Tick()
	}
}

func wantAsk(t *testing.T, x *signpost.Resolver, s string, number int) {
	t.Helper()
	if n, e := x.Ask(s); n != number || e != api.OK {
		t.Errorf("Ask(%.60q) = %d, %d, want %d", s, n, e, number)
	}
}

func wantNoAsk(t *testing.T, x *signpost.Resolver, s string, want api.Errno) {
	t.Helper()
	if n, e := x.Ask(s); n != 0 || e != want {
		t.Errorf("Ask(%.60q) = %d, %d, want 0, %d", s, n, e, want)
	}
}

func wantSent(t *testing.T, x *signpost.Resolver, from int, want ...api.Packet) {
	t.Helper()
	if got := x.Sent(from); !slices.Equal(got, want) {
		t.Errorf("Sent(%d) = %+v, want %+v", from, got, want)
	}
}

func wantReplies(t *testing.T, x *signpost.Resolver, from int, want ...api.Reply) {
	t.Helper()
	if got := x.Replies(from); !slices.Equal(got, want) {
		t.Errorf("Replies(%d) = %+v, want %+v", from, got, want)
	}
}
