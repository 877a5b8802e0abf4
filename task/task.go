// Package task: a question of a client, and the work on it.
package task

import (
	"slices"

	"signpost/api"
	"signpost/belief"
)

// Task is a question of a client that is being worked on.
type Task struct {
	Number   int
	question api.Message
	goals    []*goal // the last one is on top
	sends    int
	waitsFor sent
}

// sent is a question that was sent, and to whom.
type sent struct {
	belief.Question
	id, address int
}

// Step is what working on a task comes to: a question that is to be sent to an
// address, or, if the task has ended, the reply to the client.
type Step struct {
	Ended   bool
	Address int
	Message api.Message
}

// Begin makes a task of a client's question that has this number.
func Begin(number int, question api.Message) *Task {
	first := newGoal(question.Name, question.Type)
	return &Task{Number: number, question: question, goals: []*goal{first}}
}

// Waited tells for how long the task waits.
func (t *Task) Waited(now int) int {
	return now - t.waitsFor.At
}

// IsAnsweredBy tells whether a message from an address is the reply that the
// task waits for.
func (t *Task) IsAnsweredBy(from int, m api.Message) bool {
	s := t.waitsFor
	return m.Reply && from == s.address && m.ID == s.id && m.Name == s.Name && m.Type == s.Type
}

// Hear remembers what is believed of the reply that the task waits for.
func (t *Task) Hear(w World, reply api.Message) {
	for _, e := range t.waitsFor.Entries(w.Config.MaxTtl, reply) {
		w.Memory.Store(w.Now, e)
	}
}

// Work goes on with the task until it has something to send, or has ended.
func (t *Task) Work(w World) Step {
	for {
		if step, done := t.workOnTop(w); done {
			return step
		}
	}
}

// workOnTop works on the goal on top until the task waits or has ended (then
// it is done), or another goal is on top, or this one begins again.
func (t *Task) workOnTop(w World) (Step, bool) {
	g := t.goals[len(t.goals)-1]
	if e, ended := g.recall(w); ended {
		return t.endGoal(w, g, e)
	}
	for z := range w.zones(g.name) {
		if p, ok := g.untried(w, z); ok {
			return t.send(w, g, p), true
		}
		if target, ok := t.targetToAskFor(w, g, z); ok {
			g.askedFor = append(g.askedFor, target)
			t.goals = append(t.goals, newGoal(target, api.Address))
			return Step{}, false
		}
	}
	return t.endGoal(w, g, end{code: api.Failed})
}

// targetToAskFor tells the first server of a zone whose address is not known
// and may still be asked for.
func (t *Task) targetToAskFor(w World, g *goal, z zone) (string, bool) {
	if len(t.goals) >= api.MaxGoals {
		return "", false
	}
	for _, server := range z.servers {
		if len(w.records(server.Target, api.Address)) == 0 &&
			!slices.Contains(g.askedFor, server.Target) &&
			!t.looksForAddress(server.Target) {
			return server.Target, true
		}
	}
	return "", false
}

func (t *Task) looksForAddress(name string) bool {
	return slices.ContainsFunc(t.goals, func(g *goal) bool {
		return g.began == name && g.kind == api.Address
	})
}

func (t *Task) send(w World, g *goal, p place) Step {
	if t.sends >= api.MaxSends {
		return t.reply(w.Now, api.Failed)
	}
	t.sends++
	g.tried[g.attemptAt(p)]++
	w.use(p)
	asked := belief.Question{Name: g.name, Type: g.kind, Zone: p.zone, At: w.Now}
	t.waitsFor = sent{asked, w.NextID, p.address}
	return Step{Address: p.address, Message: api.Message{ID: w.NextID, Name: g.name, Type: g.kind}}
}

// endGoal ends the goal on top, and the task with its last goal. An alias that
// has run out meanwhile may lead elsewhere now, so it is not told.
func (t *Task) endGoal(w World, g *goal, e end) (Step, bool) {
	switch {
	case len(t.goals) > 1:
		t.goals = t.goals[:len(t.goals)-1]
		return Step{}, false
	case e.code == api.Failed:
		return t.reply(w.Now, api.Failed), true
	case g.anAliasRanOut(w.Now):
		g.beginAgain()
		return Step{}, false
	}
	return t.reply(w.Now, e.code, slices.Concat(g.aliases, e.facts)...), true
}

// reply puts together what the client is told: facts with what is left of
// their time.
func (t *Task) reply(now, code int, facts ...fact) Step {
	told := t.question
	told.Reply = true
	told.Code = code
	for _, f := range facts {
		f.record.Ttl = f.until - now
		told.Answer = append(told.Answer, f.record)
	}
	return Step{Ended: true, Message: told}
}
