package task

import (
	"signpost/api"
	"signpost/memory"
)

// World is what all tasks of a resolver work with.
type World struct {
	Config api.Config
	Memory *memory.Memory
	Now    int
	NextID int // of the next question that is sent
}

// answer tells the live entry of a name and type, if it is an answer.
func (w World) answer(name string, kind int) (api.Entry, bool) {
	e, live := w.Memory.Live(w.Now, name, kind)
	if !live || e.Rank != memory.Answer {
		return api.Entry{}, false
	}
	return e, true
}

// answerThatSays is answer for those entries that have records.
func (w World) answerThatSays(name string, kind int) (api.Entry, bool) {
	e, told := w.answer(name, kind)
	return e, told && len(e.Records) > 0
}

// records tells the records of the live entry of a name and type, whatever its
// rank.
func (w World) records(name string, kind int) []api.Record {
	e, _ := w.Memory.Live(w.Now, name, kind)
	return e.Records
}
