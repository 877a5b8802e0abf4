package task

import (
	"fmt"
	"reflect"
	"slices"
	"testing"

	"signpost/api"
	"signpost/memory"
)

const (
	sideways = 1 // the rank of what was said along the way
	answer   = 2
	always   = 900
)

// world has the hint 9, lets each address be tried once, and remembers these
// entries.
func world(entries ...api.Entry) *World {
	c := api.Config{Hints: []int{9}, Entries: 64, Tries: 1, Patience: 5, MaxTtl: 1000}
	w := &World{Config: c, Memory: memory.New(c.Entries)}
	w.remember(entries...)
	return w
}

func (w *World) remember(entries ...api.Entry) {
	for _, e := range entries {
		w.Memory.Store(w.Now, e)
	}
}

func addresses(name string, rank, until int, numbers ...int) api.Entry {
	e := api.Entry{Name: name, Type: api.Address, Rank: rank, Until: until}
	for _, n := range numbers {
		e.Records = append(e.Records, api.Record{Name: name, Type: api.Address, Ttl: 1, Number: n})
	}
	return e
}

// targets makes an entry of the type Server or Alias.
func targets(name string, kind, rank, until int, to ...string) api.Entry {
	e := api.Entry{Name: name, Type: kind, Rank: rank, Until: until}
	for _, target := range to {
		e.Records = append(e.Records, api.Record{Name: name, Type: kind, Ttl: 1, Target: target})
	}
	return e
}

func servers(name string, to ...string) api.Entry {
	return targets(name, api.Server, sideways, always, to...)
}

func at(name string, numbers ...int) api.Entry {
	return addresses(name, sideways, always, numbers...)
}

func alias(name string, until int, to string) api.Entry {
	return targets(name, api.Alias, answer, until, to)
}

func nothing(name string, kind, rank, until int) api.Entry {
	return api.Entry{Name: name, Type: kind, Rank: rank, Until: until}
}

func begin(name string, kind int) *Task {
	return Begin(3, api.Message{ID: 77, Name: name, Type: kind})
}

// told is a record as a reply has it: with what is left of its time.
func told(ttl int, e api.Entry) []api.Record {
	records := slices.Clone(e.Records)
	for i := range records {
		records[i].Ttl = ttl
	}
	return records
}

func wantSend(t *testing.T, k *Task, w *World, address int, name string, kind int) {
	t.Helper()
	want := Step{Address: address, Message: api.Message{Name: name, Type: kind}}
	if got := k.Work(*w); !reflect.DeepEqual(got, want) {
		t.Fatalf("Work = %+v, want %+v", got, want)
	}
}

func wantEnd(t *testing.T, k *Task, w *World, code int, records ...api.Record) {
	t.Helper()
	first := k.goals[0]
	want := Step{Ended: true, Message: api.Message{ID: 77, Reply: true, Code: code, Name: first.began, Type: first.kind, Answer: records}}
	if got := k.Work(*w); !reflect.DeepEqual(got, want) {
		t.Fatalf("Work = %+v, want %+v", got, want)
	}
}

// unanswered works on a task until it ends, a tick between each two sends, and
// tells what was sent, as "address name type".
func unanswered(t *testing.T, k *Task, w *World) []string {
	t.Helper()
	var sent []string
	for range api.MaxSends + 1 {
		step := k.Work(*w)
		if step.Ended {
			if step.Message.Code != api.Failed || step.Message.Answer != nil {
				t.Errorf("a task that nobody answers ends with %+v", step.Message)
			}
			return sent
		}
		sent = append(sent, fmt.Sprintf("%d %s %d", step.Address, step.Message.Name, step.Message.Type))
		w.Now++
	}
	t.Fatalf("more than MaxSends sends: %q", sent)
	return nil
}

func wantUnanswered(t *testing.T, k *Task, w *World, want ...string) {
	t.Helper()
	if got := unanswered(t, k, w); !slices.Equal(got, want) {
		t.Errorf("sent were %q, want %q", got, want)
	}
}
