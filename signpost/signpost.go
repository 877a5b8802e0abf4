// Package signpost: names, asked from server to server: see DOC.md.
package signpost

import (
	"signpost/api"
	"signpost/memory"
	"signpost/task"
	"signpost/wire"
)

// Encode tells a message's bytes (P3).
func Encode(m api.Message) (string, api.Errno) { return wire.Encode(m) }

// Decode tells the message of bytes (P3).
func Decode(s string) (api.Message, api.Errno) { return wire.Decode(s) }

// Resolver finds out what names mean.
type Resolver struct {
	world   task.World
	tasks   []*task.Task // those that wait, in the order in which they were begun
	asked   int
	sent    []api.Packet
	replies []api.Reply
}

// New makes a resolver (P4).
func New(c api.Config) (*Resolver, api.Errno) {
	if !mayBe(c) {
		return nil, api.ErrArg
	}
	c.Hints = tail(c.Hints, 0)
	return &Resolver{world: task.World{Config: c, Memory: memory.New(c.Entries), NextID: firstID}}, api.OK
}

// Ask takes a question of a client (P5).
func (x *Resolver) Ask(s string) (int, api.Errno) {
	id, ok := wire.QuestionID(s)
	if !ok {
		return 0, api.ErrShort
	}
	if len(x.tasks) >= api.MaxTasks {
		return 0, api.ErrBusy
	}
	number := x.asked
	x.asked++
	if question, ok := questionOf(s); ok {
		x.begin(task.Begin(number, question))
	} else {
		x.tell(number, api.Message{ID: id, Reply: true, Code: api.Broken})
	}
	return number, api.OK
}

// Deliver takes packets (P6).
func (x *Resolver) Deliver(packets ...api.Packet) {
	for _, a := range arrivals(packets...) {
		x.hear(a)
	}
}

// Tick lets time go by (P6).
func (x *Resolver) Tick() {
	x.world.Now++
	var waiting []*task.Task
	for _, t := range x.tasks {
		if !x.isOverdue(t) || x.work(t) {
			waiting = append(waiting, t)
		}
	}
	x.tasks = waiting
}

// Sent tells what was sent (P7).
func (x *Resolver) Sent(from int) []api.Packet { return tail(x.sent, from) }

// Replies tells what clients were told (P7).
func (x *Resolver) Replies(from int) []api.Reply { return tail(x.replies, from) }

// Entries tells what is remembered (P7).
func (x *Resolver) Entries() []api.Entry { return x.world.Memory.Entries() }
