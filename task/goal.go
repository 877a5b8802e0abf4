package task

import (
	"slices"

	"signpost/api"
	"signpost/memory"
)

// goal is a name and a type that a task is to find out.
type goal struct {
	began    string // the name that it began with
	name     string // where the aliases have led since
	kind     int
	aliases  []fact
	tried    map[attempt]int
	askedFor []string // names of servers
}

// fact is a record that holds as long as the time is below until.
type fact struct {
	record api.Record
	until  int
}

// attempt is an address of a zone that was asked for a name.
type attempt struct {
	name, zone string
	address    int
}

// end is what has come of a goal.
type end struct {
	code  int
	facts []fact
}

func newGoal(name string, kind int) *goal {
	return &goal{began: name, name: name, kind: kind, tried: map[attempt]int{}}
}

// recall ends the goal by what is remembered, if it can: along the aliases.
func (g *goal) recall(w World) (end, bool) {
	for {
		if e, ok := w.answerThatSays(g.name, g.kind); ok {
			w.Memory.Use(e.Name, e.Type)
			return end{api.Fine, factsOf(e)}, true
		}
		// Were the alias itself asked for, it would have been told just above.
		e, ok := w.answerThatSays(g.name, api.Alias)
		if !ok {
			return g.recallNothing(w)
		}
		w.Memory.Use(e.Name, e.Type)
		g.aliases = append(g.aliases, factsOf(e)[0])
		if len(g.aliases) > api.MaxLinks {
			return end{code: api.Failed}, true
		}
		g.name = e.Records[0].Target
	}
}

// recallNothing ends the goal if it is remembered that there is nothing.
func (g *goal) recallNothing(w World) (end, bool) {
	if e, ok := w.Memory.Live(w.Now, g.name, memory.NoSuchName); ok {
		w.Memory.Use(e.Name, e.Type)
		return end{code: api.Unknown}, true
	}
	if e, ok := w.answer(g.name, g.kind); ok {
		w.Memory.Use(e.Name, e.Type)
		return end{code: api.Fine}, true
	}
	return end{}, false
}

func factsOf(e api.Entry) []fact {
	var facts []fact
	for _, r := range e.Records {
		facts = append(facts, fact{r, e.Until})
	}
	return facts
}

// beginAgain keeps what was tried and asked for, so that nothing is asked more
// often for it.
func (g *goal) beginAgain() {
	g.name, g.aliases = g.began, nil
}

func (g *goal) anAliasRanOut(now int) bool {
	return slices.ContainsFunc(g.aliases, func(f fact) bool { return now >= f.until })
}

// untried tells the first address of a zone that may be asked once more.
func (g *goal) untried(w World, z zone) (place, bool) {
	for p := range w.places(z) {
		if g.tried[g.attemptAt(p)] < w.Config.Tries {
			return p, true
		}
	}
	return place{}, false
}

func (g *goal) attemptAt(p place) attempt {
	return attempt{g.name, p.zone, p.address}
}
