package signpost_test

import (
	"math/rand"
	"reflect"
	"slices"
	"testing"

	"signpost/api"
	"signpost/signpost"
)

// liar answers anything, of few names, so that what it says often fits
// together.
type liar struct {
	chance *rand.Rand
	maxTtl int
}

func (l liar) name() string {
	return []string{"", "a", "b", "c", "a.b", "b.b", "n.b", "a.c", "n.c", "n.a", "a.a.b", "b.a.b", "n.a.b"}[l.chance.Intn(13)]
}

// nameNear is often the name that was asked for, or one above it.
func (l liar) nameNear(name string) string {
	if l.chance.Intn(3) == 0 {
		return l.name()
	}
	all := namesUpward(name)
	return all[l.chance.Intn(len(all))]
}

func (l liar) record(name string, kind int) api.Record {
	r := api.Record{Name: name, Type: kind, Ttl: 1 + l.chance.Intn(l.maxTtl)}
	switch kind {
	case api.Address:
		r.Number = l.chance.Intn(6)
	case api.Server, api.Alias:
		r.Target = l.name()
	}
	return r
}

func (l liar) says(q api.Message) api.Message {
	m := api.Message{Code: []int{0, 0, 0, 0, 0, 0, 0, 1, 2, 3, 3}[l.chance.Intn(11)]}
	for range l.chance.Intn(4) {
		m.Servers = append(m.Servers, l.record(l.nameNear(q.Name), []int{2, 2, 2, 2, 4, 4, 1, 3}[l.chance.Intn(8)]))
	}
	if len(m.Servers) > 0 {
		for range l.chance.Intn(9) {
			m.Servers = append(m.Servers, l.record(m.Servers[0].Name, m.Servers[0].Type))
		}
		m.Servers = m.Servers[:min(len(m.Servers), 10)]
	}
	for _, s := range m.Servers {
		if l.chance.Intn(2) == 0 {
			m.More = append(m.More, l.record(s.Target, api.Address))
		}
	}
	if l.chance.Intn(3) > 0 {
		return m
	}
	kind := []int{q.Type, api.Alias, api.Alias, l.chance.Intn(4) + 1}[l.chance.Intn(4)]
	for range l.chance.Intn(10) {
		m.Answer = append(m.Answer, l.record(l.nameNear(q.Name), l.chance.Intn(4)+1), l.record(q.Name, kind))
		m.Answer = m.Answer[:min(len(m.Answer), 10)]
	}
	return m
}

// anyConfig is one of few hints that servers may have as addresses, too.
func anyConfig(chance *rand.Rand) api.Config {
	return api.Config{Hints: []int{3, 1, 9}[:1+chance.Intn(3)], Entries: []int{4, 5, 8, 64}[chance.Intn(4)], Tries: 1 + chance.Intn(3),
		Patience: 1 + chance.Intn(6), MaxTtl: []int{1, 5, 20, 1000}[chance.Intn(4)]}
}

// anyReply is one to a question that was sent lately, mostly to the last one.
func (l liar) anyReply(t *testing.T, sent []api.Packet) (from int, m api.Message) {
	back := max(0, l.chance.Intn(5)-2)
	p := sent[max(0, len(sent)-1-back)]
	q, _ := signpost.Decode(p.Bytes)
	m = l.says(q)
	m.ID, m.Name, m.Type, m.Reply = q.ID, q.Name, q.Type, true
	if l.chance.Intn(40) == 0 {
		m.Reply = false
	}
	if l.chance.Intn(40) == 0 {
		m.Name = l.name()
	}
	if l.chance.Intn(40) == 0 {
		return p.Address + 1, m
	}
	return p.Address, m
}

// pair is a resolver and the plain one beside it.
type pair struct {
	x *signpost.Resolver
	p *plain
	l liar
}

func (b pair) step(t *testing.T) {
	switch n := b.l.chance.Intn(12); {
	case n == 0:
		b.x.Tick()
		b.p.tick()
	case n <= 2 || len(b.p.sent) == 0:
		id, name, kind := b.l.chance.Intn(65536), b.l.name(), 1+b.l.chance.Intn(3)
		_, got := b.x.Ask(question(t, id, name, kind))
		if want := b.p.ask(id, name, kind); got != want {
			t.Errorf("Ask answers %d, want %d", got, want)
		}
	default:
		var packets []api.Packet
		for range b.l.chance.Intn(4) {
			from, m := b.l.anyReply(t, b.p.sent)
			packets = append(packets, api.Packet{Address: from, Bytes: bytesOf(t, m)})
			if len(packets[len(packets)-1].Bytes) <= api.MaxPacket {
				b.p.deliver(from, m)
			}
		}
		b.x.Deliver(packets...)
	}
}

func TestP6AsThePlainOne(t *testing.T) {
	seen := map[string]int{}
	for seed := range 400 {
		chance := rand.New(rand.NewSource(int64(seed)))
		c := anyConfig(chance)
		b := pair{made(t, c), newPlain(t, c), liar{chance, []int{3, 10, 1000}[chance.Intn(3)]}}
		for step := range 250 {
			b.step(t)
			got, want := b.x.Entries(), b.p.sorted()
			if !(len(got) == 0 && len(want) == 0) && !reflect.DeepEqual(got, want) {
				t.Fatalf("seed %d, step %d: Entries() =\n%+v, want\n%+v", seed, step, got, want)
			}
			if got := b.x.Sent(0); !slices.Equal(got, b.p.sent) {
				t.Fatalf("seed %d, step %d: Sent(0) =\n%+v, want\n%+v", seed, step, got, b.p.sent)
			}
			if got := b.x.Replies(0); !slices.Equal(got, b.p.replies) {
				t.Fatalf("seed %d, step %d: Replies(0) =\n%+v, want\n%+v", seed, step, got, b.p.replies)
			}
		}
		for what, times := range b.p.seen {
			seen[what] += times
		}
	}
	for _, what := range []string{"a greater rank stays", "one that is not live goes", "one that is live goes", "busy", "begins again", "too many aliases",
		"an address is looked for already", "too many goals", "too many sends", "told 0", "told 2", "told 3", "a goal of several ends 0", "a goal of several ends 2", "a goal of several ends 3"} {
		if seen[what] < 10 {
			t.Errorf("too seldom: %q, %d times", what, seen[what])
		}
	}
	t.Logf("seen were %v", seen)
}
