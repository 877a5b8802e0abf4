// Package belief: what of a server's reply is believed, and for how long.
package belief

import (
	"iter"
	"slices"

	"signpost/api"
	"signpost/memory"
	"signpost/names"
)

// Question is what a server was asked, as one of a zone's.
type Question struct {
	Name string
	Type int
	Zone string
	At   int // the time at which it was sent
}

// Entries tells what is to be remembered of a reply, in the order in which it
// is to be stored.
func (q Question) Entries(maxTtl int, reply api.Message) []api.Entry {
	if reply.Code != api.Fine && reply.Code != api.Unknown {
		return nil
	}
	if e, ok := q.answer(q.believed(maxTtl, reply.Answer...)...); ok {
		return []api.Entry{e}
	}
	servers := q.believed(maxTtl, reply.Servers...)
	below, leadsOn := q.zoneBelow(servers...)
	if reply.Code == api.Unknown || !leadsOn {
		return q.nothing(reply.Code, servers...)
	}
	return q.wayOn(below, servers, q.believed(maxTtl, reply.More...))
}

// believed leaves out what is none of the zone's business, so that nobody can
// speak for another zone.
func (q Question) believed(maxTtl int, records ...api.Record) []api.Record {
	var kept []api.Record
	for _, r := range records {
		if names.Within(r.Name, q.Zone) {
			r.Ttl = min(r.Ttl, maxTtl)
			kept = append(kept, r)
		}
	}
	return kept
}

// answer makes an entry of what was asked for, or of the alias that stands in
// its place.
func (q Question) answer(records ...api.Record) (api.Entry, bool) {
	if found := setOf(q.Name, q.Type, records...); len(found) > 0 {
		return q.entry(memory.Answer, found...), true
	}
	if found := setOf(q.Name, api.Alias, records...); len(found) > 0 {
		return q.entry(memory.Answer, found[0]), true
	}
	return api.Entry{}, false
}

// zoneBelow tells the first zone that servers are told of and that lies nearer
// to the name. The zone that was asked would lead round in a circle.
func (q Question) zoneBelow(servers ...api.Record) (string, bool) {
	for _, r := range servers {
		if r.Type == api.Server && r.Name != q.Zone && names.Within(q.Name, r.Name) {
			return r.Name, true
		}
	}
	return "", false
}

// nothing makes an entry that says that there is nothing, if a bound tells for
// how long that holds.
func (q Question) nothing(code int, servers ...api.Record) []api.Entry {
	kind := q.Type
	if code == api.Unknown {
		kind = memory.NoSuchName
	}
	for _, r := range servers {
		if r.Type == api.Bound && names.Within(q.Name, r.Name) {
			return []api.Entry{{Name: q.Name, Type: kind, Rank: memory.Answer, Until: q.At + r.Ttl}}
		}
	}
	return nil
}

// wayOn makes entries of the servers of a zone, and of their addresses.
func (q Question) wayOn(zone string, servers, more []api.Record) []api.Entry {
	set := setOf(zone, api.Server, servers...)
	entries := []api.Entry{q.entry(memory.AlongTheWay, set...)}
	for target := range targets(set...) {
		if found := setOf(target, api.Address, more...); len(found) > 0 {
			entries = append(entries, q.entry(memory.AlongTheWay, found...))
		}
	}
	return entries
}

// entry makes one of a set's records. Its time began when the question was
// sent: nobody knows when later it was answered.
func (q Question) entry(rank int, set ...api.Record) api.Entry {
	shortest := slices.MinFunc(set, func(a, b api.Record) int { return a.Ttl - b.Ttl })
	return api.Entry{Name: set[0].Name, Type: set[0].Type, Rank: rank, Until: q.At + shortest.Ttl, Records: set}
}

// setOf picks the records of a name and type, as many as an entry may have.
func setOf(name string, kind int, records ...api.Record) []api.Record {
	var set []api.Record
	for _, r := range records {
		if r.Name == name && r.Type == kind && len(set) < api.MaxSet {
			set = append(set, r)
		}
	}
	return set
}

// targets goes through the different targets of records.
func targets(records ...api.Record) iter.Seq[string] {
	return func(yield func(string) bool) {
		for i, r := range records {
			isSame := func(earlier api.Record) bool { return earlier.Target == r.Target }
			if !slices.ContainsFunc(records[:i], isSame) && !yield(r.Target) {
				return
			}
		}
	}
}
