package task

import (
	"iter"

	"signpost/api"
	"signpost/names"
)

// zone is a part of all names that servers know; the root's are not told by
// records.
type zone struct {
	name    string
	servers []api.Record
}

// place is where a question can be sent, with the names of the entries that
// led there.
type place struct {
	zone, target string
	address      int
}

// zones goes through the zones in which a name lies, the nearest first.
func (w World) zones(name string) iter.Seq[zone] {
	return func(yield func(zone) bool) {
		for above := range names.Upward(name) {
			if z, ok := w.zone(above); ok && !yield(z) {
				return
			}
		}
	}
}

// zone tells the zone of a name, if one is known. The root is there in any
// case, and what is remembered of it does not count.
func (w World) zone(name string) (zone, bool) {
	if name == names.Root {
		return zone{name: name}, true
	}
	servers := w.records(name, api.Server)
	return zone{name, servers}, len(servers) > 0
}

// places goes through the addresses of a zone.
func (w World) places(z zone) iter.Seq[place] {
	if z.name == names.Root {
		return w.hints
	}
	return func(yield func(place) bool) {
		for _, server := range z.servers {
			for _, r := range w.records(server.Target, api.Address) {
				if !yield(place{z.name, server.Target, r.Number}) {
					return
				}
			}
		}
	}
}

// hints goes through the addresses of the root, to which no entry leads.
func (w World) hints(yield func(place) bool) {
	for _, address := range w.Config.Hints {
		if !yield(place{zone: names.Root, address: address}) {
			return
		}
	}
}

// use notes that the entries that led to a place are used.
func (w World) use(p place) {
	if p.zone == names.Root {
		return
	}
	w.Memory.Use(p.zone, api.Server)
	w.Memory.Use(p.target, api.Address)
}
