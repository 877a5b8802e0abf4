package signpost_test

import (
	"math/rand"
	"testing"

	"signpost/api"
	"signpost/signpost"
)

// Nobody answers: each hint is asked as often as it may be, then the task has
// failed.
func TestP6TickTillItFails(t *testing.T) {
	for _, hints := range [][]int{{9}, {0, 255}, {7, 5, 6}} {
		for tries := 1; tries <= 3; tries++ {
			for _, patience := range []int{1, 2, 7, 20} {
				c := api.Config{Hints: hints, Entries: 4, Tries: tries, Patience: patience, MaxTtl: 1}
				x := made(t, c)
				wantAsk(t, x, question(t, 300, "a.b", 2), 0)
				var sent []api.Packet
				for i := range len(hints) * tries {
					sent = append(sent, packet(t, hints[i/tries], i+1, "a.b", 2))
					for range patience {
						wantSent(t, x, 0, sent...)
						wantReplies(t, x, 0)
						x.Tick()
					}
				}
				for range 3 {
					wantSent(t, x, 0, sent...)
					wantReplies(t, x, 0, failed(t, 0, 300, "a.b", 2))
					ticks(x, patience)
				}
			}
		}
	}
}

// What counts is how often an address was tried, not where it stands.
func TestP6TickWithAHintThatIsThereTwice(t *testing.T) {
	x := made(t, settings(9, 8, 9))
	wantAsk(t, x, question(t, 5, "a", 1), 0)
	ticks(x, 11)
	wantSent(t, x, 0, packet(t, 9, 1, "a", 1), packet(t, 9, 2, "a", 1), packet(t, 8, 3, "a", 1), packet(t, 8, 4, "a", 1))
	wantReplies(t, x, 0)
	x.Tick()
	wantReplies(t, x, 0, failed(t, 0, 5, "a", 1))
	wantSent(t, x, 4)
}

func TestP6TickInTheOrderInWhichTheyBegan(t *testing.T) {
	x := made(t, settings(9))
	wantAsk(t, x, question(t, 5, "c", 1), 0)
	x.Tick()
	wantAsk(t, x, question(t, 5, "b", 1), 1)
	wantAsk(t, x, question(t, 4, "a", 1), 2)
	x.Tick()
	wantSent(t, x, 3)
	x.Tick()
	wantSent(t, x, 3, packet(t, 9, 4, "c", 1))
	x.Tick()
	wantSent(t, x, 4, packet(t, 9, 5, "b", 1), packet(t, 9, 6, "a", 1))
	x.Tick()
	wantReplies(t, x, 0)
	x.Tick()
	wantReplies(t, x, 0, failed(t, 0, 5, "c", 1))
	wantAsk(t, x, question(t, 8, "d", 3), 3)
	x.Tick()
	wantReplies(t, x, 1, failed(t, 1, 5, "b", 1), failed(t, 2, 4, "a", 1))
	ticks(x, 2)
	wantSent(t, x, 6, packet(t, 9, 7, "d", 3), packet(t, 9, 8, "d", 3))
}

// A question that was asked late waits its whole time.
func TestP6TickBeforeAnythingWasAsked(t *testing.T) {
	x := made(t, settings(9))
	ticks(x, 1000)
	wantSent(t, x, 0)
	wantAsk(t, x, question(t, 5, "a", 1), 0)
	ticks(x, 2)
	wantSent(t, x, 1)
	x.Tick()
	wantSent(t, x, 1, packet(t, 9, 2, "a", 1))
}

func TestP6DeliverOfNothing(t *testing.T) {
	x := made(t, settings(9))
	x.Deliver()
	wantAsk(t, x, question(t, 5, "a", 1), 0)
	x.Deliver()
	x.Deliver([]api.Packet{}...)
	wantSent(t, x, 0, packet(t, 9, 1, "a", 1))
	ticks(x, 6)
	wantReplies(t, x, 0, failed(t, 0, 5, "a", 1))
}

func TestP6IDsGoRound(t *testing.T) {
	x := made(t, api.Config{Hints: []int{9}, Entries: 4, Tries: 1, Patience: 1, MaxTtl: 1})
	q := question(t, 5, "a", 1)
	for i := range 65534 {
		wantAsk(t, x, q, i)
		x.Tick()
	}
	for i := range 4 {
		wantAsk(t, x, q, 65534+i)
	}
	wantSent(t, x, 65533, packet(t, 9, 65534, "a", 1), packet(t, 9, 65535, "a", 1), packet(t, 9, 0, "a", 1), packet(t, 9, 1, "a", 1), packet(t, 9, 2, "a", 1))
}

// silence says what a resolver does that nobody answers: a plain row of sends
// for each question.
type silence struct {
	t       *testing.T
	c       api.Config
	now, id int
	asked   int
	tasks   []*unanswered
	sent    []api.Packet
	replies []api.Reply
}

type unanswered struct {
	number, id, kind int
	name             string
	sends, since     int
}

func (s *silence) goOn(u *unanswered) bool {
	if u.sends == len(s.c.Hints)*s.c.Tries {
		s.replies = append(s.replies, failed(s.t, u.number, u.id, u.name, u.kind))
		return false
	}
	s.id++
	s.sent = append(s.sent, packet(s.t, s.c.Hints[u.sends/s.c.Tries], s.id, u.name, u.kind))
	u.sends, u.since = u.sends+1, s.now
	return true
}

func (s *silence) ask(x *signpost.Resolver, u *unanswered) {
	q := question(s.t, u.id, u.name, u.kind)
	if len(s.tasks) == api.MaxTasks {
		wantNoAsk(s.t, x, q, api.ErrBusy)
		return
	}
	u.number = s.asked
	wantAsk(s.t, x, q, u.number)
	s.asked++
	s.goOn(u)
	s.tasks = append(s.tasks, u)
}

func (s *silence) tick() {
	s.now++
	var left []*unanswered
	for _, u := range s.tasks {
		if s.now-u.since < s.c.Patience || s.goOn(u) {
			left = append(left, u)
		}
	}
	s.tasks = left
}

func TestP6ManyQuestionsAndTicks(t *testing.T) {
	for seed := range 30 {
		chance := rand.New(rand.NewSource(int64(seed)))
		c := api.Config{Hints: []int{3, 1, 2}[:1+chance.Intn(3)], Entries: 4, Tries: 1 + chance.Intn(3), Patience: 1 + chance.Intn(6), MaxTtl: 9}
		x, s := made(t, c), &silence{t: t, c: c}
		for range 300 {
			if chance.Intn(3) == 0 {
				s.ask(x, &unanswered{id: chance.Intn(65536), name: anyName(chance), kind: 1 + chance.Intn(3)})
			} else {
				x.Tick()
				s.tick()
			}
		}
		wantSent(t, x, 0, s.sent...)
		wantReplies(t, x, 0, s.replies...)
		if len(s.replies) == 0 {
			t.Errorf("seed %d came to no reply", seed)
		}
	}
}
