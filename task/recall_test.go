package task

import (
	"slices"
	"testing"

	"signpost/api"
	"signpost/memory"
)

func TestAnswersAreTold(t *testing.T) {
	a := addresses("a.b", answer, 30, 4, 5, 4)
	for now, left := range map[int]int{0: 30, 10: 20, 29: 1} {
		w := world(a)
		w.Now = now
		wantEnd(t, begin("a.b", api.Address), w, api.Fine, told(left, a)...)
	}
	w := world(a)
	w.Now = 30
	wantSend(t, begin("a.b", api.Address), w, 9, "a.b", api.Address)
	s := targets("a", api.Server, answer, 7, "x", "")
	wantEnd(t, begin("a", api.Server), world(s), api.Fine, told(7, s)...)
	l := targets("", api.Alias, answer, 7, "x", "y")
	wantEnd(t, begin("", api.Alias), world(l), api.Fine, told(7, l)...)
}

func TestWhatWasSaidAlongTheWayIsNoAnswer(t *testing.T) {
	w := world(addresses("a", sideways, always, 4), targets("a", api.Alias, sideways, always, "b"), addresses("b", answer, always, 5))
	wantSend(t, begin("a", api.Address), w, 9, "a", api.Address)
	wantSend(t, begin("a", api.Alias), w, 9, "a", api.Alias)
	w = world(servers("a", "ns.a"), at("ns.a", 6), nothing("b", api.Address, sideways, always))
	wantSend(t, begin("a", api.Server), w, 6, "a", api.Server)
	wantSend(t, begin("b", api.Address), w, 9, "b", api.Address)
}

func TestAliasesAreFollowed(t *testing.T) {
	last := addresses("e", answer, 50, 1, 2, 3, 4, 5, 6)
	w := world(alias("a", 10, "b"), alias("b", 20, "c"), alias("c", 30, "d"), alias("d", 40, "e"), last)
	w.Now = 3
	wantEnd(t, begin("a", api.Address), w, api.Fine, slices.Concat(
		told(7, alias("a", 0, "b")), told(17, alias("b", 0, "c")), told(27, alias("c", 0, "d")), told(37, alias("d", 0, "e")), told(47, last))...)
	wantEnd(t, begin("d", api.Address), w, api.Fine, slices.Concat(told(37, alias("d", 0, "e")), told(47, last))...)
	wantEnd(t, begin("d", api.Alias), w, api.Fine, told(37, alias("d", 0, "e"))...)
	w.remember(alias("z", 30, "a"))
	wantEnd(t, begin("z", api.Address), w, api.Failed)
	wantEnd(t, begin("z", api.Alias), w, api.Fine, told(27, alias("z", 0, "a"))...)
}

func TestAliasesThatLeadRoundFail(t *testing.T) {
	w := world(alias("a", always, "a"), alias("b", always, "c"), alias("c", always, "b"))
	wantEnd(t, begin("a", api.Address), w, api.Failed)
	wantEnd(t, begin("c", api.Server), w, api.Failed)
}

func TestTheFirstOfSeveralAliasesLeadsOn(t *testing.T) {
	both := targets("a", api.Alias, answer, 10, "b", "c")
	b := addresses("b", answer, 20, 1)
	w := world(both, b, addresses("c", answer, 20, 2))
	wantEnd(t, begin("a", api.Address), w, api.Fine, slices.Concat(told(10, both)[:1], told(20, b))...)
}

func TestAnAnswerGoesAheadOfAnAliasAndOfNothing(t *testing.T) {
	a := addresses("a", answer, 10, 1)
	w := world(a, alias("a", 20, "b"), nothing("a", memory.NoSuchName, answer, 20))
	wantEnd(t, begin("a", api.Address), w, api.Fine, told(10, a)...)
	w = world(alias("a", 20, "b"), nothing("a", memory.NoSuchName, answer, 20), nothing("a", api.Address, answer, 20), nothing("b", memory.NoSuchName, answer, 5))
	wantEnd(t, begin("a", api.Address), w, api.Unknown, told(20, alias("a", 0, "b"))...)
}

func TestAliasesWithoutRecordsLeadNowhere(t *testing.T) {
	w := world(nothing("a", api.Alias, answer, 20))
	wantSend(t, begin("a", api.Address), w, 9, "a", api.Address)
	wantEnd(t, begin("a", api.Alias), w, api.Fine)
}

func TestThatThereIsNothingIsTold(t *testing.T) {
	w := world(nothing("a", memory.NoSuchName, answer, 20), nothing("a", api.Address, answer, 30), nothing("b", api.Server, answer, 20), alias("c", 40, "b"))
	wantEnd(t, begin("a", api.Address), w, api.Unknown)
	wantEnd(t, begin("a", api.Alias), w, api.Unknown)
	wantEnd(t, begin("b", api.Server), w, api.Fine)
	wantEnd(t, begin("c", api.Server), w, api.Fine, told(40, alias("c", 0, "b"))...)
	wantSend(t, begin("b", api.Address), w, 9, "b", api.Address)
	wantSend(t, begin("a.b", api.Server), w, 9, "a.b", api.Server)
	w.Now = 20
	wantEnd(t, begin("a", api.Address), w, api.Fine)
	wantSend(t, begin("a", api.Alias), w, 9, "a", api.Alias)
	wantSend(t, begin("b", api.Server), w, 9, "b", api.Server)
	wantSend(t, begin("c", api.Server), w, 9, "b", api.Server)
}

// What comes to be remembered while a task waits is seen when it goes on, and
// an alias that it has followed stays.
func TestAliasesStayWhileATaskWaits(t *testing.T) {
	w := world(alias("a", 20, "b"))
	k := begin("a", api.Address)
	wantSend(t, k, w, 9, "b", api.Address)
	w.Now = 5
	w.remember(alias("a", 30, "c"), alias("b", 8, "d"), addresses("d", answer, 9, 1))
	wantEnd(t, k, w, api.Fine, slices.Concat(
		told(15, alias("a", 0, "b")), told(3, alias("b", 0, "d")), told(4, addresses("d", 0, 0, 1)))...)
}

func TestAnAliasThatRanOutBeginsTheGoalAgain(t *testing.T) {
	w := world(alias("a", 5, "b"))
	w.Config.Tries = 2
	k := begin("a", api.Address)
	wantSend(t, k, w, 9, "b", api.Address)
	w.Now = 4
	wantSend(t, k, w, 9, "b", api.Address)
	w.remember(addresses("b", answer, 20, 1))
	w.Now = 5
	wantSend(t, k, w, 9, "a", api.Address)
	w.remember(alias("a", 7, "c"), nothing("c", api.Address, answer, 20))
	w.Now = 6
	wantEnd(t, k, w, api.Fine, told(1, alias("a", 0, "c"))...)
}

func TestAnAliasThatRanOutIsNotToldWithUnknown(t *testing.T) {
	w := world(alias("a", 5, "b"))
	k := begin("a", api.Address)
	wantSend(t, k, w, 9, "b", api.Address)
	w.Now = 5
	w.remember(nothing("b", memory.NoSuchName, answer, 20), alias("a", 9, "b"))
	wantEnd(t, k, w, api.Unknown, told(4, alias("a", 0, "b"))...)
}

// When it begins again, what it has tried is still tried.
func TestBeginningAgainKeepsWhatWasTried(t *testing.T) {
	w := world()
	k := begin("a", api.Address)
	wantSend(t, k, w, 9, "a", api.Address)
	w.remember(alias("a", 5, "b"))
	w.Now = 4
	wantSend(t, k, w, 9, "b", api.Address)
	w.remember(addresses("b", answer, 20, 1))
	w.Now = 5
	wantEnd(t, k, w, api.Failed)
}

// A goal that fails tells no alias, be it live or not.
func TestAFailedTaskTellsNothing(t *testing.T) {
	w := world(alias("a", 5, "b"))
	k := begin("a", api.Address)
	wantSend(t, k, w, 9, "b", api.Address)
	w.Now = 1
	wantEnd(t, k, w, api.Failed)
	k = begin("a", api.Address)
	wantSend(t, k, w, 9, "b", api.Address)
	w.Now = 6
	wantEnd(t, k, w, api.Failed)
}
