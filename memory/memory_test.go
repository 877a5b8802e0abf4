package memory

import (
	"fmt"
	"math/rand"
	"reflect"
	"slices"
	"strings"
	"testing"

	"signpost/api"
)

func entry(name string, kind, rank, until int, numbers ...int) api.Entry {
	e := api.Entry{Name: name, Type: kind, Rank: rank, Until: until}
	for _, n := range numbers {
		e.Records = append(e.Records, api.Record{Name: name, Type: kind, Ttl: 1, Number: n})
	}
	return e
}

func filled(now, room int, entries ...api.Entry) *Memory {
	m := New(room)
	for _, e := range entries {
		m.Store(now, e)
	}
	return m
}

func wantEntries(t *testing.T, m *Memory, want ...api.Entry) {
	t.Helper()
	if got := m.Entries(); !(len(got) == 0 && len(want) == 0) && !reflect.DeepEqual(got, want) {
		t.Errorf("Entries() = %+v, want %+v", got, want)
	}
}

// wantNames wants entries of the type Address of these names, and no others.
func wantNames(t *testing.T, m *Memory, want string) {
	t.Helper()
	var got []string
	for _, e := range m.Entries() {
		got = append(got, e.Name)
	}
	if strings.Join(got, " ") != want {
		t.Errorf("remembered are %q, want %q", got, want)
	}
}

func TestLive(t *testing.T) {
	m := filled(0, 4, entry("a", 1, 2, 5, 7))
	for now := range 8 {
		e, ok := m.Live(now, "a", 1)
		if ok != (now < 5) {
			t.Errorf("Live at %d of an entry until 5 = %v", now, ok)
		}
		if want := entry("a", 1, 2, 5, 7); ok && !reflect.DeepEqual(e, want) {
			t.Errorf("Live = %+v, want %+v", e, want)
		}
		if !ok && !reflect.DeepEqual(e, api.Entry{}) {
			t.Errorf("Live = %+v, where none is", e)
		}
	}
	for _, k := range []key{{"a", 0}, {"a", 2}, {"", 1}, {"b", 1}, {"a.a", 1}} {
		if e, ok := m.Live(0, k.name, k.kind); ok || !reflect.DeepEqual(e, api.Entry{}) {
			t.Errorf("Live(%+v) = %+v, %v", k, e, ok)
		}
	}
}

func TestEntriesByNameAndType(t *testing.T) {
	wantEntries(t, New(4))
	sorted := []api.Entry{
		entry("", 1, 1, 3), entry("a", 0, 2, 1), entry("a", 1, 2, 9, 4, 3), entry("a", 2, 1, 9, 0), entry("a", 3, 2, 9, 0),
		entry("a.b", 1, 2, 9, 1), entry("aa", 1, 2, 9, 1), entry("ab", 0, 2, 9), entry("b", 0, 2, 9), entry("b", 1, 1, 9, 1),
	}
	for seed := range 20 {
		mixed := slices.Clone(sorted)
		rand.New(rand.NewSource(int64(seed))).Shuffle(len(mixed), func(i, j int) { mixed[i], mixed[j] = mixed[j], mixed[i] })
		wantEntries(t, filled(0, 64, mixed...), sorted...)
	}
}

func TestStoreByRank(t *testing.T) {
	for _, c := range []struct {
		now, old, until, new int
		taken                bool
	}{
		{0, 1, 9, 2, true}, {0, 1, 9, 1, true}, {0, 2, 9, 2, true}, {0, 2, 9, 1, false},
		{8, 2, 9, 1, false}, {9, 2, 9, 1, true}, {10, 2, 9, 1, true},
	} {
		m := filled(0, 4, entry("a", 1, c.old, c.until, 1))
		m.Store(c.now, entry("a", 1, c.new, 12, 2, 3))
		want := entry("a", 1, c.old, c.until, 1)
		if c.taken {
			want = entry("a", 1, c.new, 12, 2, 3)
		}
		wantEntries(t, m, want)
	}
}

func TestStoreOfOtherNamesAndTypes(t *testing.T) {
	m := filled(0, 4, entry("a", 1, 2, 9, 1), entry("a", 0, 1, 9), entry("b", 1, 1, 9, 2))
	wantEntries(t, m, entry("a", 0, 1, 9), entry("a", 1, 2, 9, 1), entry("b", 1, 1, 9, 2))
}

func four() *Memory {
	return filled(0, 4, entry("a", 1, 2, 10), entry("b", 1, 2, 20), entry("c", 1, 2, 30), entry("d", 1, 2, 40))
}

func TestTheOneUsedLongestAgoGoes(t *testing.T) {
	m := four()
	m.Store(1, entry("e", 1, 2, 50))
	wantNames(t, m, "b c d e")
	m.Use("b", 1)
	m.Use("d", 1)
	m.Store(1, entry("f", 1, 2, 60))
	wantNames(t, m, "b d e f")
	m.Store(1, entry("g", 1, 2, 60))
	wantNames(t, m, "b d f g")
	m.Use("d", 1)
	m.Use("b", 1)
	m.Store(1, entry("h", 1, 2, 60))
	m.Store(1, entry("i", 1, 2, 60))
	wantNames(t, m, "b d h i")
	m.Store(1, entry("j", 1, 2, 60))
	wantNames(t, m, "b h i j")
}

func TestThoseThatAreNotLiveGoFirst(t *testing.T) {
	m := four()
	m.Use("b", 1)
	m.Use("a", 1)
	m.Store(20, entry("e", 1, 2, 50)) // a and b are over
	wantNames(t, m, "a c d e")
	m.Store(20, entry("f", 1, 2, 50))
	wantNames(t, m, "c d e f")
	m.Store(29, entry("g", 1, 2, 50))
	wantNames(t, m, "d e f g")
	m.Store(40, entry("h", 1, 2, 50))
	wantNames(t, m, "e f g h")
}

func TestOneThatTakesAPlaceNeedsNoRoom(t *testing.T) {
	m := four()
	m.Store(1, entry("d", 1, 2, 15, 9))
	wantNames(t, m, "a b c d")
	m.Store(1, entry("a", 1, 2, 15, 9))
	wantNames(t, m, "a b c d")
	m.Store(1, entry("e", 1, 2, 50)) // storing a was a use of it
	wantNames(t, m, "a c d e")
	m.Store(1, entry("c", 1, 1, 50)) // which is refused, and no use
	m.Store(1, entry("f", 1, 2, 50))
	wantNames(t, m, "a d e f")
}

func TestUseOfWhatIsNotThere(t *testing.T) {
	m := four()
	m.Use("x", 1)
	m.Use("a", 2)
	wantNames(t, m, "a b c d")
	m.Store(1, entry("e", 1, 2, 50))
	wantNames(t, m, "b c d e")
}

func TestNoMoreThanThereIsRoomFor(t *testing.T) {
	for _, room := range []int{4, 64} {
		m := New(room)
		for i := range 200 {
			m.Store(i, entry(fmt.Sprintf("n%d", i), 1, 2, i+i%7, i))
			if got := len(m.Entries()); got != min(i+1, room) {
				t.Fatalf("%d entries after %d with room for %d", got, i+1, room)
			}
		}
	}
}

func TestListsAreCopies(t *testing.T) {
	given := entry("a", 1, 2, 9, 1, 2)
	m := filled(0, 4, given, entry("b", 1, 2, 9, 3))
	given.Records[0].Number = 99
	for range 2 {
		all := m.Entries()
		if !reflect.DeepEqual(all, []api.Entry{entry("a", 1, 2, 9, 1, 2), entry("b", 1, 2, 9, 3)}) {
			t.Errorf("Entries() = %+v", all)
		}
		for _, e := range all {
			whole := e.Records[:cap(e.Records)]
			for i := range whole {
				whole[i].Number = 77
			}
		}
		clear(all[:cap(all)])
	}
}
