package signpost_test

import (
	"reflect"
	"testing"

	"signpost/api"
	"signpost/signpost"
)

// clientID is the ID of all questions in a dialog.
const clientID = 77

// dialog is a resolver, how much of what it sent and told was looked at, and
// the question that it sent last.
type dialog struct {
	t          *testing.T
	x          *signpost.Resolver
	sent, told int
	last       api.Packet
}

// patient are settings with the hint 9, room for all, and one try.
func patient() api.Config {
	return api.Config{Hints: []int{9}, Entries: 64, Tries: 1, Patience: 20, MaxTtl: 1000}
}

func talk(t *testing.T, c api.Config) *dialog {
	t.Helper()
	return &dialog{t: t, x: made(t, c)}
}

func (d *dialog) ask(name string, kind int) {
	d.t.Helper()
	if _, e := d.x.Ask(question(d.t, clientID, name, kind)); e != api.OK {
		d.t.Fatalf("Ask(%q, %d) answers %d", name, kind, e)
	}
}

// sends wants that one question was sent since, with the next ID, and nothing
// was told.
func (d *dialog) sends(address int, name string, kind int) {
	d.t.Helper()
	want := packet(d.t, address, (d.sent+1)%65536, name, kind)
	if got := d.x.Sent(d.sent); len(got) != 1 || got[0] != want {
		d.t.Fatalf("sent was %+v, want %+v", got, want)
	}
	wantReplies(d.t, d.x, d.told)
	d.sent++
	d.last = want
}

// tells wants that a client was told this since, and nothing was sent.
func (d *dialog) tells(name string, kind, code int, answer ...api.Record) {
	d.t.Helper()
	want := api.Message{ID: clientID, Reply: true, Code: code, Name: name, Type: kind, Answer: answer}
	got := d.x.Replies(d.told)
	if len(got) != 1 || got[0].Bytes != bytesOf(d.t, want) {
		d.t.Fatalf("told was %+v, want %+v", got, want)
	}
	d.told++
	wantSent(d.t, d.x, d.sent)
}

// quiet wants that nothing was sent or told since.
func (d *dialog) quiet() {
	d.t.Helper()
	wantSent(d.t, d.x, d.sent)
	wantReplies(d.t, d.x, d.told)
}

// replyTo makes a reply of what is said to a question that was sent.
func replyTo(t *testing.T, sent api.Packet, said api.Message) api.Packet {
	t.Helper()
	q, e := signpost.Decode(sent.Bytes)
	if e != api.OK {
		t.Fatalf("what was sent is no message: %q", sent.Bytes)
	}
	said.ID, said.Reply, said.Name, said.Type = q.ID, true, q.Name, q.Type
	return api.Packet{Address: sent.Address, Bytes: bytesOf(t, said)}
}

// hears lets the question that was sent last be answered.
func (d *dialog) hears(said api.Message) {
	d.t.Helper()
	d.x.Deliver(replyTo(d.t, d.last, said))
}

func (d *dialog) remembers(want ...api.Entry) {
	d.t.Helper()
	got := d.x.Entries()
	if !(len(got) == 0 && len(want) == 0) && !reflect.DeepEqual(got, want) {
		d.t.Errorf("Entries() =\n%+v, want\n%+v", got, want)
	}
}

func list(records ...api.Record) []api.Record { return records }

func entryOf(rank, until int, records ...api.Record) api.Entry {
	return api.Entry{Name: records[0].Name, Type: records[0].Type, Rank: rank, Until: until, Records: records}
}

func noneOf(name string, kind, until int) api.Entry {
	return api.Entry{Name: name, Type: kind, Rank: 2, Until: until}
}
