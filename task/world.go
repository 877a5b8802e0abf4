package task

import (
	"signpost/api"
	"signpost/memory"
)

const (
	rankOfAnswers = 2

	// noSuchName is the type of an entry that says that there is no such name.
	noSuchName = 0
)

// World is what all tasks of a resolver work with.
type World struct {
	Config api.Config
	Memory *memory.Memory
	Now    int
}

// answer tells the live entry of a name and type, if it is an answer.
func (w World) answer(name string, kind int) (api.Entry, bool) {
	e, live := w.Memory.Live(w.Now, name, kind)
	if !live || e.Rank != rankOfAnswers {
		return api.Entry{}, false
	}
	return e, true
}

// answerThatSays is answer for those entries that have records.
func (w World) answerThatSays(name string, kind int) (api.Entry, bool) {
	e, told := w.answer(name, kind)
	return e, told && len(e.Records) > 0
}

// records tells the records of the live entry of a name and type, whatever its
// rank.
func (w World) records(name string, kind int) []api.Record {
	e, _ := w.Memory.Live(w.Now, name, kind)
	return e.Records
}
