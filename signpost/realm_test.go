package signpost_test

import (
	"maps"
	"math/rand"
	"slices"
	"strings"
	"testing"

	"signpost/api"
	"signpost/signpost"
)

// realm is a world of zones whose servers say what is so.
type realm struct {
	chance *rand.Rand
	maxTtl int
	bounds map[string]int // the ttl of each zone's bound; the root is one of them
	sets   map[fact][]api.Record
}

type fact struct {
	name string
	kind int
}

// meaning is what is so of a question: the aliases that are to be followed,
// and the records at their end.
type meaning struct {
	code    int
	records []api.Record
	aliases int
}

const rootAddress = 9

var realmLabels = []string{"a", "b", "c", "d"}

// newRealm makes a realm with some zones and many names.
func newRealm(chance *rand.Rand, maxTtl int) *realm {
	w := &realm{chance: chance, maxTtl: maxTtl, bounds: map[string]int{}, sets: map[fact][]api.Record{}}
	w.bounds[""] = w.ttl()
	for range 2 + chance.Intn(6) {
		w.addZone(w.anyName(1, 2))
	}
	for range 30 {
		w.change()
	}
	return w
}

func (w *realm) ttl() int { return 1 + w.chance.Intn(w.maxTtl) }

func (w *realm) anyName(least, most int) string {
	var labels []string
	for range least + w.chance.Intn(most-least+1) {
		labels = append(labels, realmLabels[w.chance.Intn(len(realmLabels))])
	}
	return strings.Join(labels, ".")
}

// addZone gives a zone servers with names within it.
func (w *realm) addZone(name string) {
	w.bounds[name] = w.ttl()
	delete(w.sets, fact{name, api.Alias})
	var servers []api.Record
	for _, label := range []string{"n", "m"}[:1+w.chance.Intn(2)] {
		target := label + "." + name
		servers = append(servers, server(name, w.ttl(), target))
		var addresses []api.Record
		for range 1 + w.chance.Intn(2) {
			addresses = append(addresses, address(target, w.ttl(), 10+w.chance.Intn(240)))
		}
		w.sets[fact{target, api.Address}] = addresses
	}
	w.sets[fact{name, api.Server}] = servers
}

func (w *realm) isZone(name string) bool { return w.bounds[name] > 0 }

// change lets something else be so of a name that is no zone.
func (w *realm) change() {
	name := w.anyName(1, 3)
	if w.isZone(name) {
		return
	}
	delete(w.sets, fact{name, api.Alias})
	delete(w.sets, fact{name, api.Address})
	switch n := w.chance.Intn(6); {
	case n <= 1:
		w.sets[fact{name, api.Alias}] = list(alias(name, w.ttl(), w.anyName(0, 3)))
	case n <= 3:
		var numbers []api.Record
		for range 1 + w.chance.Intn(8) {
			numbers = append(numbers, address(name, w.ttl(), w.chance.Intn(256)))
		}
		w.sets[fact{name, api.Address}] = numbers
	}
}

// moveZone gives a zone other servers, makes one, or takes one away.
func (w *realm) moveZone() {
	name := w.anyName(1, 2)
	if w.isZone(name) {
		delete(w.bounds, name)
		delete(w.sets, fact{name, api.Server})
		delete(w.sets, fact{"n." + name, api.Address})
		delete(w.sets, fact{"m." + name, api.Address})
	}
	if w.chance.Intn(3) > 0 {
		w.addZone(name)
	}
}

func (w *realm) copied() *realm {
	c := *w
	c.bounds, c.sets = maps.Clone(w.bounds), maps.Clone(w.sets)
	return &c
}

func (w *realm) exists(name string) bool {
	for f := range w.sets {
		if isWithin(f.name, name) {
			return true
		}
	}
	return w.isZone(name)
}

// zoneOf tells the nearest zone in which a name lies.
func (w *realm) zoneOf(name string) string {
	for _, above := range namesUpward(name) {
		if w.isZone(above) {
			return above
		}
	}
	return ""
}

func firstSix(set []api.Record) []api.Record { return set[:min(len(set), 6)] }

// means tells what is so of a name and type.
func (w *realm) means(name string, kind int) meaning {
	var m meaning
	for m.aliases <= api.MaxLinks {
		if set := w.sets[fact{name, kind}]; len(set) > 0 {
			m.records = append(m.records, firstSix(set)...)
			return m
		}
		set := w.sets[fact{name, api.Alias}]
		if len(set) == 0 {
			if !w.exists(name) {
				m.code = api.Unknown
			}
			return m
		}
		m.aliases++
		m.records = append(m.records, set[0])
		name = set[0].Target
	}
	return meaning{code: api.Failed, aliases: m.aliases}
}

// zonesAt tells the zones whose servers have an address.
func (w *realm) zonesAt(number int) []string {
	var zones []string
	if number == rootAddress {
		zones = append(zones, "")
	}
	for zone := range w.bounds {
		for _, s := range w.sets[fact{zone, api.Server}] {
			if slices.ContainsFunc(w.sets[fact{s.Target, api.Address}], func(r api.Record) bool { return r.Number == number }) {
				zones = append(zones, zone)
			}
		}
	}
	return zones
}

// says is what the server at an address says to a question.
func (w *realm) says(number int, q api.Message) api.Message {
	zone, ok := "", false
	for _, z := range w.zonesAt(number) {
		if isWithin(q.Name, z) && (!ok || len(z) > len(zone)) {
			zone, ok = z, true
		}
	}
	if !ok {
		return api.Message{Code: api.Failed}
	}
	if below, ok := w.cut(zone, q.Name); ok {
		return w.wayTo(below)
	}
	return w.saysOf(zone, q)
}

// cut tells the zone that begins next below a zone, on the way to a name.
func (w *realm) cut(zone, name string) (string, bool) {
	all := namesUpward(name)
	slices.Reverse(all)
	for _, n := range all {
		if w.isZone(n) && len(n) > len(zone) && isWithin(n, zone) {
			return n, true
		}
	}
	return "", false
}

func (w *realm) wayTo(zone string) api.Message {
	m := api.Message{Servers: w.sets[fact{zone, api.Server}]}
	for _, s := range m.Servers {
		m.More = append(m.More, w.sets[fact{s.Target, api.Address}]...)
	}
	return m
}

// saysOf is what a server says of names of its own zone; of where an alias
// leads to it says something, too, now and then.
func (w *realm) saysOf(zone string, q api.Message) api.Message {
	end := list(bound(zone, w.bounds[zone]))
	if set := w.sets[fact{q.Name, q.Type}]; len(set) > 0 {
		return api.Message{Answer: set, Servers: end}
	}
	if set := w.sets[fact{q.Name, api.Alias}]; len(set) > 0 {
		m := api.Message{Answer: set}
		if full := w.means(q.Name, q.Type); full.code != api.Failed && w.chance.Intn(2) == 0 {
			m = api.Message{Code: full.code, Answer: full.records, Servers: end}
		}
		return m
	}
	if w.exists(q.Name) {
		return api.Message{Servers: end}
	}
	return api.Message{Code: api.Unknown, Servers: end}
}

// answers tells the reply to a question that was sent.
func (w *realm) answers(t *testing.T, sent api.Packet) api.Packet {
	t.Helper()
	q, _ := signpost.Decode(sent.Bytes)
	return replyTo(t, sent, w.says(sent.Address, q))
}

// settle lets all that is sent be answered at once, until nothing is sent any
// more; from is how much of it was answered before.
func (w *realm) settle(t *testing.T, x *signpost.Resolver, from int) int {
	t.Helper()
	for {
		sent := x.Sent(from)
		if len(sent) == 0 {
			return from
		}
		for _, p := range sent {
			x.Deliver(w.answers(t, p))
		}
		from += len(sent)
	}
}

// withoutTtls makes lists alike that differ in ttls alone.
func withoutTtls(records []api.Record) []api.Record {
	plain := slices.Clone(records)
	for i := range plain {
		plain[i].Ttl = 0
	}
	return plain
}

func lastTold(t *testing.T, x *signpost.Resolver, number int) api.Message {
	t.Helper()
	replies := x.Replies(0)
	if len(replies) == 0 || replies[len(replies)-1].Number != number {
		t.Fatalf("there is no reply to question %d: %+v", number, replies)
	}
	m, e := signpost.Decode(replies[len(replies)-1].Bytes)
	if e != api.OK {
		t.Fatalf("the reply to question %d is no message", number)
	}
	return m
}
