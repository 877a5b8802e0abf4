package signpost_test

import (
	"fmt"
	"slices"
	"sort"
	"strings"
	"testing"

	"signpost/api"
)

// plain is a resolver that does what the document says in the plainest way,
// for the other one to be held against. It is handed messages, not bytes.
type plain struct {
	t         *testing.T
	c         api.Config
	now, uses int
	asked     int
	entries   []*plainEntry
	tasks     []*plainTask // those that wait
	sent      []api.Packet
	replies   []api.Reply
	seen      map[string]int // how often something came about
}

type plainEntry struct {
	api.Entry
	used int
}

type plainTask struct {
	number, id int
	goals      []*plainGoal
	sends      int
	question   api.Message // the one that it waits for
	to, at     int
	zone       string
}

type plainGoal struct {
	began, x string
	kind     int
	aliases  []*plainEntry // each with the alias as its first record
	tried    map[string]int
	askedFor map[string]int
}

func newPlain(t *testing.T, c api.Config) *plain {
	return &plain{t: t, c: c, seen: map[string]int{}}
}

func isWithin(name, other string) bool {
	return other == "" || name == other || strings.HasSuffix(name, "."+other)
}

func namesUpward(name string) []string {
	var all []string
	for name != "" {
		all = append(all, name)
		_, name, _ = strings.Cut(name, ".")
	}
	return append(all, "")
}

func (p *plain) live(name string, kind int) *plainEntry {
	for _, e := range p.entries {
		if e.Name == name && e.Type == kind && p.now < e.Until {
			return e
		}
	}
	return nil
}

func (p *plain) use(e *plainEntry) {
	p.uses++
	e.used = p.uses
}

func (p *plain) store(e api.Entry) {
	if old := p.live(e.Name, e.Type); old != nil && old.Rank > e.Rank {
		p.seen["a greater rank stays"]++
		return
	}
	before := len(p.entries)
	p.entries = slices.DeleteFunc(p.entries, func(o *plainEntry) bool { return o.Name == e.Name && o.Type == e.Type })
	if len(p.entries) == before && before == p.c.Entries {
		p.forget()
	}
	added := &plainEntry{Entry: e}
	p.entries = append(p.entries, added)
	p.use(added)
}

func (p *plain) forget() {
	sort.Slice(p.entries, func(i, j int) bool { return p.entries[i].used < p.entries[j].used })
	for i, e := range p.entries {
		if p.now >= e.Until {
			p.seen["one that is not live goes"]++
			p.entries = slices.Delete(p.entries, i, i+1)
			return
		}
	}
	p.seen["one that is live goes"]++
	p.entries = p.entries[1:]
}

func (p *plain) ask(id int, name string, kind int) api.Errno {
	if len(p.tasks) == api.MaxTasks {
		p.seen["busy"]++
		return api.ErrBusy
	}
	k := &plainTask{number: p.asked, id: id}
	k.push(name, kind)
	p.asked++
	p.tasks = append(p.tasks, k)
	p.work(k)
	return api.OK
}

func (k *plainTask) push(name string, kind int) {
	k.goals = append(k.goals, &plainGoal{began: name, x: name, kind: kind, tried: map[string]int{}, askedFor: map[string]int{}})
}

func (p *plain) tick() {
	p.now++
	for _, k := range slices.Clone(p.tasks) {
		if p.now-k.at >= p.c.Patience {
			p.work(k)
		}
	}
}

func (p *plain) work(k *plainTask) {
	for {
		g := k.goals[len(k.goals)-1]
		code, records := p.recall(g)
		if code < 0 {
			if p.send(k, g) {
				return
			}
			if k.goals[len(k.goals)-1] != g {
				continue
			}
			code = api.Failed
		}
		if len(k.goals) > 1 {
			p.seen[fmt.Sprint("a goal of several ends ", code)]++
			k.goals = k.goals[:len(k.goals)-1]
			continue
		}
		if code != api.Failed && slices.ContainsFunc(g.aliases, func(e *plainEntry) bool { return p.now >= e.Until }) {
			p.seen["begins again"]++
			g.x, g.aliases = g.began, nil
			continue
		}
		p.end(k, code, records)
		return
	}
}

// recall is steps 1 to 3: a code, or -1 if the goal goes on.
func (p *plain) recall(g *plainGoal) (int, *plainEntry) {
	for {
		e := p.live(g.x, g.kind)
		if e != nil && e.Rank == 2 && len(e.Records) > 0 {
			p.use(e)
			return api.Fine, e
		}
		if a := p.live(g.x, api.Alias); g.kind != api.Alias && a != nil && a.Rank == 2 && len(a.Records) > 0 {
			p.use(a)
			g.aliases = append(g.aliases, a)
			if len(g.aliases) > api.MaxLinks {
				p.seen["too many aliases"]++
				return api.Failed, nil
			}
			g.x = a.Records[0].Target
			continue
		}
		if n := p.live(g.x, 0); n != nil {
			p.use(n)
			return api.Unknown, nil
		}
		if e != nil && e.Rank == 2 {
			p.use(e)
			return api.Fine, nil
		}
		return -1, nil
	}
}

// send is step 4: it tells whether the task waits or has ended.
func (p *plain) send(k *plainTask, g *plainGoal) bool {
	for _, zone := range namesUpward(g.x) {
		if zone == "" {
			for _, hint := range p.c.Hints {
				if p.tryAt(k, g, zone, hint) {
					return true
				}
			}
			return false
		}
		z := p.live(zone, api.Server)
		if z == nil || len(z.Records) == 0 {
			continue
		}
		for _, r := range z.Records {
			a := p.live(r.Target, api.Address)
			if a == nil {
				continue
			}
			for _, n := range a.Records {
				if p.tryAt(k, g, zone, n.Number, z, a) {
					return true
				}
			}
		}
		for _, r := range z.Records {
			if a := p.live(r.Target, api.Address); a != nil && len(a.Records) > 0 || g.askedFor[r.Target] > 0 {
				continue
			}
			if slices.ContainsFunc(k.goals, func(o *plainGoal) bool { return o.began == r.Target && o.kind == api.Address }) {
				p.seen["an address is looked for already"]++
				continue
			}
			if len(k.goals) == api.MaxGoals {
				p.seen["too many goals"]++
				continue
			}
			g.askedFor[r.Target]++
			k.push(r.Target, api.Address)
			return false
		}
	}
	return false
}

func (p *plain) tryAt(k *plainTask, g *plainGoal, zone string, to int, led ...*plainEntry) bool {
	key := fmt.Sprint(g.x, " ", zone, " ", to)
	if g.tried[key] >= p.c.Tries {
		return false
	}
	if k.sends == api.MaxSends {
		p.seen["too many sends"]++
		p.end(k, api.Failed, nil)
		return true
	}
	g.tried[key]++
	k.sends++
	for _, e := range led {
		p.use(e)
	}
	k.question = api.Message{ID: (len(p.sent) + 1) % 65536, Name: g.x, Type: g.kind}
	k.to, k.at, k.zone = to, p.now, zone
	p.sent = append(p.sent, api.Packet{Address: to, Bytes: bytesOf(p.t, k.question)})
	return true
}

func (p *plain) end(k *plainTask, code int, records *plainEntry) {
	first := k.goals[0]
	told := api.Message{ID: k.id, Reply: true, Code: code, Name: first.began, Type: first.kind}
	if code != api.Failed {
		for _, a := range first.aliases {
			told.Answer = append(told.Answer, left(a.Records[0], a.Until-p.now))
		}
		if records != nil {
			for _, r := range records.Records {
				told.Answer = append(told.Answer, left(r, records.Until-p.now))
			}
		}
	}
	p.seen[fmt.Sprint("told ", code)]++
	p.replies = append(p.replies, api.Reply{Number: k.number, Bytes: bytesOf(p.t, told)})
	p.tasks = slices.DeleteFunc(p.tasks, func(o *plainTask) bool { return o == k })
}

func left(r api.Record, ttl int) api.Record {
	r.Ttl = ttl
	return r
}

func (p *plain) deliver(from int, m api.Message) {
	for _, k := range p.tasks {
		if m.Reply && from == k.to && m.ID == k.question.ID && m.Name == k.question.Name && m.Type == k.question.Type {
			if m.Code == api.Fine || m.Code == api.Unknown {
				p.learn(k, m)
			}
			p.work(k)
			return
		}
	}
}

func (p *plain) learn(k *plainTask, m api.Message) {
	x, kind := m.Name, m.Type
	pick := func(list []api.Record, name string, kind, most int) []api.Record {
		var picked []api.Record
		for _, r := range list {
			if isWithin(r.Name, k.zone) && r.Name == name && r.Type == kind && len(picked) < most {
				picked = append(picked, left(r, min(r.Ttl, p.c.MaxTtl)))
			}
		}
		return picked
	}
	put := func(rank int, records []api.Record) {
		ttl := records[0].Ttl
		for _, r := range records {
			ttl = min(ttl, r.Ttl)
		}
		p.store(api.Entry{Name: records[0].Name, Type: records[0].Type, Rank: rank, Until: k.at + ttl, Records: records})
	}
	if found := pick(m.Answer, x, kind, 6); found != nil {
		put(2, found)
		return
	}
	if found := pick(m.Answer, x, api.Alias, 1); found != nil {
		put(2, found)
		return
	}
	below, ttl := "", 0
	for _, r := range m.Servers {
		if isWithin(r.Name, k.zone) && isWithin(x, r.Name) {
			if r.Type == api.Server && r.Name != k.zone && below == "" {
				below = r.Name
			}
			if r.Type == api.Bound && ttl == 0 {
				ttl = min(r.Ttl, p.c.MaxTtl)
			}
		}
	}
	if m.Code == api.Unknown || below == "" {
		if m.Code == api.Unknown {
			kind = 0
		}
		if ttl > 0 {
			p.store(api.Entry{Name: x, Type: kind, Rank: 2, Until: k.at + ttl})
		}
		return
	}
	servers := pick(m.Servers, below, api.Server, 6)
	put(1, servers)
	seen := map[string]int{}
	for _, r := range servers {
		seen[r.Target]++
		if found := pick(m.More, r.Target, api.Address, 6); found != nil && seen[r.Target] == 1 {
			put(1, found)
		}
	}
}

func (p *plain) sorted() []api.Entry {
	var all []api.Entry
	for _, e := range p.entries {
		all = append(all, e.Entry)
	}
	sort.Slice(all, func(i, j int) bool {
		return all[i].Name < all[j].Name || all[i].Name == all[j].Name && all[i].Type < all[j].Type
	})
	return all
}
