package belief

import (
	"reflect"
	"slices"
	"testing"

	"signpost/api"
)

// asked is x.a.b and Address, of a server of b, at the time 100.
var asked = Question{Name: "x.a.b", Type: api.Address, Zone: "b", At: 100}

func at(name string, ttl, number int) api.Record {
	return api.Record{Name: name, Type: api.Address, Ttl: ttl, Number: number}
}

func by(name string, ttl int, target string) api.Record {
	return api.Record{Name: name, Type: api.Server, Ttl: ttl, Target: target}
}

func as(name string, ttl int, target string) api.Record {
	return api.Record{Name: name, Type: api.Alias, Ttl: ttl, Target: target}
}

func bound(name string, ttl int) api.Record {
	return api.Record{Name: name, Type: api.Bound, Ttl: ttl}
}

func list(records ...api.Record) []api.Record { return records }

func entry(rank, until int, records ...api.Record) api.Entry {
	return api.Entry{Name: records[0].Name, Type: records[0].Type, Rank: rank, Until: until, Records: records}
}

func none(name string, kind, until int) api.Entry {
	return api.Entry{Name: name, Type: kind, Rank: 2, Until: until}
}

func wantEntries(t *testing.T, q Question, m api.Message, want ...api.Entry) {
	t.Helper()
	if got := q.Entries(50, m); !(len(got) == 0 && len(want) == 0) && !reflect.DeepEqual(got, want) {
		t.Errorf("of %+v, asked %+v, is believed\n%+v, want\n%+v", m, q, got, want)
	}
}

func TestAnswers(t *testing.T) {
	wantEntries(t, asked, api.Message{})
	one, two := at("x.a.b", 9, 1), at("x.a.b", 7, 2)
	others := list(at("a.b", 1, 1), at("y.x.a.b", 1, 1), by("x.a.b", 1, "n"), bound("x.a.b", 1))
	for _, code := range []int{api.Fine, api.Unknown} {
		wantEntries(t, asked, api.Message{Code: code, Answer: slices.Concat(others, list(one), others, list(two)), Servers: list(by("a.b", 5, "n.b"), bound("b", 5))}, entry(2, 107, one, two))
		wantEntries(t, asked, api.Message{Code: code, Answer: list(two, one)}, entry(2, 107, two, one))
	}
	wantEntries(t, asked, api.Message{Answer: others})
	wantEntries(t, asked, api.Message{Servers: list(one), More: list(two)})
}

func TestSixRecordsAndSeven(t *testing.T) {
	var records []api.Record
	for i := range 7 {
		records = append(records, at("x.a.b", 20-i, i))
	}
	wantEntries(t, asked, api.Message{Answer: records[:6]}, entry(2, 115, records[:6]...))
	wantEntries(t, asked, api.Message{Answer: records}, entry(2, 115, records[:6]...))
}

func TestTtlsThatAreTooGreat(t *testing.T) {
	wantEntries(t, asked, api.Message{Answer: list(at("x.a.b", 51, 1), at("x.a.b", 1000, 2))}, entry(2, 150, at("x.a.b", 50, 1), at("x.a.b", 50, 2)))
	wantEntries(t, asked, api.Message{Answer: list(at("x.a.b", 51, 1), at("x.a.b", 49, 2))}, entry(2, 149, at("x.a.b", 50, 1), at("x.a.b", 49, 2)))
	wantEntries(t, asked, api.Message{Answer: list(as("x.a.b", 51, "c"))}, entry(2, 150, as("x.a.b", 50, "c")))
	wantEntries(t, asked, api.Message{Servers: list(bound("b", 51))}, none("x.a.b", 1, 150))
	wantEntries(t, asked, api.Message{Servers: list(by("a.b", 51, "n.b")), More: list(at("n.b", 60, 1))}, entry(1, 150, by("a.b", 50, "n.b")), entry(1, 150, at("n.b", 50, 1)))
}

func TestAliases(t *testing.T) {
	first, second := as("x.a.b", 9, "c"), as("x.a.b", 7, "d")
	m := api.Message{Answer: list(as("a.b", 1, "e"), first, second, at("c", 5, 1)), Servers: list(by("a.b", 5, "n.b"), bound("b", 5))}
	wantEntries(t, asked, m, entry(2, 109, first))
	m.Answer = append(m.Answer, at("x.a.b", 8, 1))
	wantEntries(t, asked, m, entry(2, 108, at("x.a.b", 8, 1)))
	q := asked
	q.Type = api.Alias
	wantEntries(t, q, m, entry(2, 107, first, second))
}

func TestThatThereIsNothing(t *testing.T) {
	bounds := list(bound("a.a.b", 1), bound("", 2), bound("c", 3), bound("a.b", 4), bound("b", 5))
	wantEntries(t, asked, api.Message{Servers: bounds}, none("x.a.b", 1, 104))
	wantEntries(t, asked, api.Message{Code: api.Unknown, Servers: bounds}, none("x.a.b", 0, 104))
	wantEntries(t, asked, api.Message{Servers: bounds[:3], Answer: bounds, More: bounds})
	wantEntries(t, asked, api.Message{Code: api.Unknown, Servers: bounds[:3], Answer: bounds, More: bounds})
	wantEntries(t, asked, api.Message{Servers: list(bound("x.a.b", 6))}, none("x.a.b", 1, 106))
	root := Question{Name: "x", Type: api.Server, At: 1}
	wantEntries(t, root, api.Message{Servers: list(bound("", 6))}, none("x", 2, 7))
	// With servers of a zone below, a bound says nothing, unless the name is unknown.
	both := slices.Concat(bounds, list(by("a.b", 5, "n.b")))
	wantEntries(t, asked, api.Message{Servers: both}, entry(1, 105, by("a.b", 5, "n.b")))
	wantEntries(t, asked, api.Message{Code: api.Unknown, Servers: both}, none("x.a.b", 0, 104))
	wantEntries(t, asked, api.Message{Code: api.Unknown, Servers: list(by("a.b", 5, "n.b")), More: list(at("n.b", 5, 1))})
}

func TestZonesBelow(t *testing.T) {
	one, two := by("a.b", 9, "n.b"), by("a.b", 7, "m.c")
	wantEntries(t, asked, api.Message{Servers: list(one)}, entry(1, 109, one))
	m := api.Message{Servers: list(by("b", 1, "n.b"), by("", 1, "n.b"), by("c.b", 1, "n.b"), by("y.x.a.b", 1, "n.b"), at("a.b", 1, 1), as("a.b", 1, "n.b"), one, by("x.a.b", 1, "n.b"), two),
		More: list(at("m.c", 5, 1), at("n.b", 6, 2), by("n.b", 1, "n.b"), at("o.b", 5, 4), at("n.b", 8, 3))}
	wantEntries(t, asked, m, entry(1, 107, one, two), entry(1, 106, at("n.b", 6, 2), at("n.b", 8, 3)))
	// Addresses are those of More alone.
	wantEntries(t, asked, api.Message{Servers: list(one, at("n.b", 5, 1)), Answer: list(at("n.b", 5, 1))}, entry(1, 109, one))
	wantEntries(t, asked, api.Message{Servers: m.Servers[:6], More: m.More})
	self := by("x.a.b", 3, "n.x.a.b")
	wantEntries(t, asked, api.Message{Servers: list(self), More: list(at("n.x.a.b", 4, 1))}, entry(1, 103, self), entry(1, 104, at("n.x.a.b", 4, 1)))
}

func TestTargetsInOrderAndOnce(t *testing.T) {
	set := list(by("a.b", 9, "n.b"), by("a.b", 9, "m.b"), by("a.b", 9, "n.b"), by("a.b", 9, "l.b"))
	more := list(at("l.b", 9, 1), at("m.b", 9, 2), at("n.b", 9, 3))
	wantEntries(t, asked, api.Message{Servers: set, More: more}, entry(1, 109, set...), entry(1, 109, more[2]), entry(1, 109, more[1]), entry(1, 109, more[0]))
	for target := range targets(set...) {
		if target == "m.b" {
			return
		}
	}
}

func TestSixServersAndSeven(t *testing.T) {
	var servers, more []api.Record
	want := []api.Entry{{}}
	for i, target := range []string{"a.b", "b.b", "c.b", "d.b", "e.b", "f.b", "g.b"} {
		servers = append(servers, by("a.b", 20-i, target))
		more = append(more, at(target, 30-i, i))
		want = append(want, entry(1, 130-i, more[i]))
	}
	want[0] = entry(1, 115, servers[:6]...)
	wantEntries(t, asked, api.Message{Servers: servers, More: more}, want[:7]...)
	more = nil
	for i := range 7 {
		more = append(more, at("a.b", 30-i, i))
	}
	wantEntries(t, asked, api.Message{Servers: servers[:1], More: more}, entry(1, 120, servers[0]), entry(1, 125, more[:6]...))
}

func TestOtherCodes(t *testing.T) {
	for _, code := range []int{api.Broken, api.Failed} {
		wantEntries(t, asked, api.Message{Code: code, Answer: list(at("x.a.b", 5, 1)), Servers: list(by("a.b", 5, "n.b"), bound("b", 5)), More: list(at("n.b", 5, 1))})
		wantEntries(t, asked, api.Message{Code: code, Servers: list(by("a.b", 5, "n.b"))})
		wantEntries(t, asked, api.Message{Code: code, Servers: list(bound("b", 5))})
	}
}
