package signpost

import (
	"slices"

	"signpost/api"
	"signpost/task"
	"signpost/wire"
)

const firstID = 1

func (x *Resolver) begin(t *task.Task) {
	if x.work(t) {
		x.tasks = append(x.tasks, t)
	}
}

// work goes on with a task, and tells whether it waits then.
func (x *Resolver) work(t *task.Task) bool {
	step := t.Work(x.world)
	if step.Ended {
		x.tell(t.Number, step.Message)
	} else {
		x.send(step.Address, step.Message)
	}
	return !step.Ended
}

// hear lets the task go on that has waited for what arrived, if there is one.
func (x *Resolver) hear(a arrival) {
	i := slices.IndexFunc(x.tasks, func(t *task.Task) bool { return t.IsAnsweredBy(a.from, a.message) })
	if i < 0 {
		return
	}
	t := x.tasks[i]
	t.Hear(x.world, a.message)
	if !x.work(t) {
		x.tasks = slices.Delete(x.tasks, i, i+1)
	}
}

func (x *Resolver) isOverdue(t *task.Task) bool {
	return t.Waited(x.world.Now) >= x.world.Config.Patience
}

func (x *Resolver) send(address int, question api.Message) {
	x.world.NextID = (question.ID + 1) % (wire.MaxID + 1)
	x.sent = append(x.sent, api.Packet{Address: address, Bytes: bytesOf(question)})
}

func (x *Resolver) tell(number int, reply api.Message) {
	x.replies = append(x.replies, api.Reply{Number: number, Bytes: bytesOf(reply)})
}

// bytesOf is for messages that were put together here, which are such.
func bytesOf(m api.Message) string {
	s, _ := wire.Encode(m)
	return s
}

// tail copies a list from an index on, wherever that lies.
func tail[T any](list []T, from int) []T {
	from = min(max(from, 0), len(list))
	return append([]T(nil), list[from:]...)
}
