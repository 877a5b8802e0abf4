// Package memory: what was told of names, for as long as there is room for it.
package memory

import (
	"cmp"
	"maps"
	"slices"

	"signpost/api"
)

// The ranks of entries.
const (
	AlongTheWay = 1
	Answer      = 2
)

// NoSuchName is the type of an entry that says that there is no such name at
// all.
const NoSuchName = 0

// Memory holds entries, one at most of a name and type.
type Memory struct {
	room    int
	uses    int
	entries map[key]*remembered
}

type key struct {
	name string
	kind int
}

// remembered knows when it was last used by how many uses there were until
// then: so no two lie equally far back, and which one goes hangs on nothing
// else.
type remembered struct {
	api.Entry
	lastUse int
}

// New makes a memory with room for so many entries.
func New(room int) *Memory {
	return &Memory{room: room, entries: map[key]*remembered{}}
}

// Live tells the entry of a name and type, if there is one that is live at the
// time now. Its records are still the memory's: they are there to be read.
func (m *Memory) Live(now int, name string, kind int) (api.Entry, bool) {
	r := m.entries[key{name, kind}]
	if r == nil || !r.isLive(now) {
		return api.Entry{}, false
	}
	return r.Entry, true
}

// Use notes that the entry of a name and type is used.
func (m *Memory) Use(name string, kind int) {
	if r := m.entries[key{name, kind}]; r != nil {
		m.uses++
		r.lastUse = m.uses
	}
}

// Store takes an entry up, unless a live one of a greater rank stands in its
// place. If there is no room, another one goes.
func (m *Memory) Store(now int, e api.Entry) {
	old := m.entries[key{e.Name, e.Type}]
	if old != nil && old.isLive(now) && old.Rank > e.Rank {
		return
	}
	if old == nil && len(m.entries) >= m.room {
		m.forgetOne(now)
	}
	m.entries[key{e.Name, e.Type}] = &remembered{Entry: copied(e)}
	m.Use(e.Name, e.Type)
}

// Entries tells all entries, by name and type.
func (m *Memory) Entries() []api.Entry {
	var all []api.Entry
	for _, r := range m.entries {
		all = append(all, copied(r.Entry))
	}
	slices.SortFunc(all, byNameAndType)
	return all
}

func (m *Memory) forgetOne(now int) {
	all := slices.Collect(maps.Values(m.entries))
	first := slices.MinFunc(all, func(a, b *remembered) int {
		switch {
		case a.isLive(now) == b.isLive(now):
			return cmp.Compare(a.lastUse, b.lastUse)
		case b.isLive(now):
			return -1
		}
		return 1
	})
	delete(m.entries, key{first.Name, first.Type})
}

func (r *remembered) isLive(now int) bool {
	return now < r.Until
}

func byNameAndType(a, b api.Entry) int {
	return cmp.Or(cmp.Compare(a.Name, b.Name), cmp.Compare(a.Type, b.Type))
}

// copied gives an entry a list of its own, so that whoever has the one cannot
// write into the other.
func copied(e api.Entry) api.Entry {
	e.Records = append([]api.Record(nil), e.Records...)
	return e
}
