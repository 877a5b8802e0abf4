package signpost_test

import (
	"math/rand"
	"strings"
	"testing"

	"signpost/api"
	"signpost/signpost"
)

// both wants that m is written as s, and s read as m.
func both(t *testing.T, m api.Message, s string) {
	t.Helper()
	wantBytes(t, m, s)
	wantMessage(t, s, m)
}

func TestP3OrdinaryMessages(t *testing.T) {
	both(t, api.Message{}, "\x00\x00q\x00\x00\x00\x00\x00\x00")
	both(t, api.Message{ID: 258, Name: "a.bc", Type: api.Address}, "\x02\x01q\x00\x01a\x02bc\x00\x01\x00\x00\x00")
	both(t, api.Message{ID: 1, Reply: true, Name: "x", Type: api.Server,
		Servers: []api.Record{server("b", 50, "ns.b")}, More: []api.Record{address("ns.b", 300, 7)}},
		"\x01\x00r\x00\x01x\x00\x02\x00\x01\x01"+"\x01b\x00\x02\x32\x00\x02ns\x01b\x00"+"\x02ns\x01b\x00\x01\x2c\x01\x07")
	both(t, api.Message{Code: api.Unknown, Reply: true, Answer: []api.Record{alias("b", 2, "")}, Servers: []api.Record{bound("", 3)}},
		"\x00\x00r\x03\x00\x00\x01\x01\x00"+"\x01b\x00\x03\x02\x00\x00"+"\x00\x04\x03\x00")
	wantMessage(t, sampleBytes, sample())
}

func TestP3Numbers(t *testing.T) {
	both(t, api.Message{ID: 65535}, "\xff\xffq\x00\x00\x00\x00\x00\x00")
	both(t, api.Message{ID: 255}, "\xff\x00q\x00\x00\x00\x00\x00\x00")
	both(t, api.Message{ID: 256}, "\x00\x01q\x00\x00\x00\x00\x00\x00")
	wantNoBytes(t, api.Message{ID: -1})
	wantNoBytes(t, api.Message{ID: 65536})
	for n := range 4 {
		both(t, api.Message{Code: n}, "\x00\x00q"+string([]byte{byte(n)})+"\x00\x00\x00\x00\x00")
	}
	for n := range 5 {
		both(t, api.Message{Type: n}, "\x00\x00q\x00\x00"+string([]byte{byte(n)})+"\x00\x00\x00")
	}
	for _, n := range []int{-1, 4, 256} {
		wantNoBytes(t, api.Message{Code: n})
	}
	for _, n := range []int{-1, 5, 256} {
		wantNoBytes(t, api.Message{Type: n})
	}
	for b := range 256 {
		s := string([]byte{byte(b)})
		if b != 'q' && b != 'r' {
			wantNoMessage(t, "\x00\x00"+s+"\x00\x00\x00\x00\x00\x00")
		}
		if b > api.Unknown {
			wantNoMessage(t, "\x00\x00q"+s+"\x00\x00\x00\x00\x00")
		}
		if b > api.Bound {
			wantNoMessage(t, "\x00\x00q\x00\x00"+s+"\x00\x00\x00")
		}
	}
}

// inEachList wants that a message with this one record is written with these
// bytes of it, and read from them, in whichever list it stands.
func inEachList(t *testing.T, r api.Record, s string) {
	t.Helper()
	list := []api.Record{r}
	both(t, api.Message{Answer: list}, "\x00\x00q\x00\x00\x00\x01\x00\x00"+s)
	both(t, api.Message{Servers: list}, "\x00\x00q\x00\x00\x00\x00\x01\x00"+s)
	both(t, api.Message{More: list}, "\x00\x00q\x00\x00\x00\x00\x00\x01"+s)
}

func inNoList(t *testing.T, s string) {
	t.Helper()
	wantNoMessage(t, "\x00\x00q\x00\x00\x00\x01\x00\x00"+s)
	wantNoMessage(t, "\x00\x00q\x00\x00\x00\x00\x01\x00"+s)
	wantNoMessage(t, "\x00\x00q\x00\x00\x00\x00\x00\x01"+s)
}

func TestP3Records(t *testing.T) {
	inEachList(t, address("a", 1, 0), "\x01a\x00\x01\x01\x00\x00")
	inEachList(t, address("", 1000, 255), "\x00\x01\xe8\x03\xff")
	inEachList(t, server("a.b", 255, "c"), "\x01a\x01b\x00\x02\xff\x00\x01c\x00")
	inEachList(t, server("", 256, ""), "\x00\x02\x00\x01\x00")
	inEachList(t, alias("a", 999, "a"), "\x01a\x00\x03\xe7\x03\x01a\x00")
	inEachList(t, bound("bc", 1), "\x02bc\x00\x04\x01\x00")
}

func TestP3WrongRecordsAreNotRead(t *testing.T) {
	for _, s := range []string{
		"\x00\x00\x01\x00", "\x00\x05\x01\x00", "\x00\xff\x01\x00", // types
		"\x00\x04\x00\x00", "\x00\x04\xe9\x03", "\x00\x04\xff\xff", // ttls
		"\x00\x01\x01\x00", "\x00\x02\x01\x00", "\x00\x03\x01\x00\x01a", // something is missing
		"\x00\x04\x01\x00\x00", "\x00\x01\x01\x00\x00\x00", "\x00\x02\x01\x00\x00\x00", // something is too much
		"\x07abcdefg\x00\x04\x01\x00", "\x00\x02\x01\x00\x07abcdefg\x00", "\x00\x03\x01\x00\x01-\x00", // names
	} {
		inNoList(t, s)
	}
}

func TestP3WrongRecordsAreNotWritten(t *testing.T) {
	wrong := []api.Record{
		{}, bound("", 0), bound("", 1001), bound("", -1), bound("A", 1), bound("a.", 1), bound("a.b.c.d.e.f", 1),
		{Type: -1, Ttl: 1}, {Type: 0, Ttl: 1}, {Type: 5, Ttl: 1}, {Type: 260, Ttl: 1},
		address("a", 0, 1), address("a", 1001, 1), address("a", 1, -1), address("a", 1, 256), address("abcdefg", 1, 1),
		server("a", 1, "A"), server("a", 1, "."), server("", 0, "a"), server("", 1, "abcdefg"), server("b c", 1, "a"),
		alias("a", 1, "a..b"), alias("a", 1, "a.b.c.d.e.f"), alias("", 1001, "a"), alias("a1", 1, "a"),
		// what does not belong to the type
		{Name: "a", Type: api.Address, Ttl: 1, Number: 1, Target: "b"},
		{Name: "a", Type: api.Server, Ttl: 1, Number: 1, Target: "b"},
		{Name: "a", Type: api.Server, Ttl: 1, Number: -1, Target: "b"},
		{Name: "a", Type: api.Alias, Ttl: 1, Number: 1, Target: "b"},
		{Name: "a", Type: api.Bound, Ttl: 1, Number: 1},
		{Name: "a", Type: api.Bound, Ttl: 1, Target: "b"},
	}
	for _, r := range wrong {
		for _, list := range [][]api.Record{{r}, {bound("a", 1), r}} {
			for _, m := range []api.Message{{Answer: list}, {Servers: list}, {More: list}} {
				if s, e := signpost.Encode(m); s != "" || e != api.ErrArg {
					t.Errorf("P3: Encode with the record %+v = %q, %d, want ErrArg", r, s, e)
				}
			}
		}
	}
}

func TestP3HowManyRecords(t *testing.T) {
	ten, eleven := repeated(bound("", 1), 10), repeated(bound("", 1), 11)
	tenBytes := strings.Repeat("\x00\x04\x01\x00", 10)
	both(t, api.Message{Answer: ten, Servers: ten, More: ten}, "\x00\x00q\x00\x00\x00\x0a\x0a\x0a"+tenBytes+tenBytes+tenBytes)
	for i, m := range []api.Message{{Answer: eleven}, {Servers: eleven}, {More: eleven}} {
		wantNoBytes(t, m)
		counts := []byte{0, 0, 0}
		counts[i] = 11
		wantNoMessage(t, "\x00\x00q\x00\x00\x00"+string(counts)+tenBytes+"\x00\x04\x01\x00")
	}
	wantNoMessage(t, "\x00\x00q\x00\x00\x00\x0a\x00\x00"+tenBytes[4:])
	wantNoMessage(t, "\x00\x00q\x00\x00\x00\x09\x00\x00"+tenBytes)
}

func TestP3NamesOfAllSizes(t *testing.T) {
	for labels := range 8 {
		for letters := range 9 {
			if labels == 0 && letters > 0 {
				continue
			}
			label := "zyxwvuts"[:letters]
			name := strings.TrimSuffix(strings.Repeat(label+".", labels), ".")
			written := strings.Repeat(string([]byte{byte(letters)})+label, labels) + "\x00"
			m := api.Message{Name: name, More: []api.Record{server(name, 1, name)}}
			s := "\x00\x00q\x00" + written + "\x00\x00\x00\x01" + written + "\x02\x01\x00" + written
			switch {
			case labels == 0 || labels <= 5 && letters >= 1 && letters <= 6:
				both(t, m, s)
			case letters == 0:
				// The first 0 ends the name: the bytes behind it are too many.
				wantNoMessage(t, s)
			default:
				wantNoBytes(t, m)
				wantNoMessage(t, s)
			}
		}
	}
}

func TestP3Letters(t *testing.T) {
	for b := range 256 {
		letter := string([]byte{byte(b)})
		s := "\x00\x00q\x00\x02a" + letter + "\x00\x00\x00\x00\x00"
		m := api.Message{Name: "a" + letter}
		switch {
		case 'a' <= b && b <= 'z':
			both(t, m, s)
		case 'A' <= b && b <= 'Z':
			wantNoBytes(t, m)
			wantMessage(t, s, api.Message{Name: "a" + strings.ToLower(letter)})
		default:
			wantNoBytes(t, m)
			wantNoMessage(t, s)
		}
	}
	wantMessage(t, "\x00\x00q\x00\x01A\x02bC\x00\x00\x00\x00\x01"+"\x01X\xff\x06\x02\x01\x00\x02NS\xff\x04",
		api.Message{Name: "a.bc", More: []api.Record{server("x.bc", 1, "ns.a.bc")}})
}

func TestP3LengthsOfLabels(t *testing.T) {
	for b := 7; b < 255; b++ {
		wantNoMessage(t, "\x00\x00q\x00"+string([]byte{byte(b)})+strings.Repeat("a", b)+"\x00\x00\x00\x00\x00")
	}
}

// The record's name begins at byte 14, its target at byte 18; behind the byte 9
// at which the question's name ends come its type (1) and the three counts.
func TestP3NamesThatGoOn(t *testing.T) {
	head := "\x00\x00q\x00\x01a\x02bc\x00\x01\x00\x00\x01"
	for _, c := range []struct{ written, name string }{
		{"\xff\x04", "a.bc"}, {"\xff\x06", "bc"}, {"\xff\x09", ""}, {"\xff\x00", ""}, {"\xff\x01", ""}, {"\xff\x03", ""},
		{"\xff\x0b", ""}, {"\xff\x0c", ""}, {"\x01x\xff\x06", "x.bc"}, {"\x01x\x06abcdef\xff\x09", "x.abcdef"},
		{"\x01x\x01y\x01z\xff\x04", "x.y.z.a.bc"}, {"\x01x\x01y\x01z\x01w\xff\x06", "x.y.z.w.bc"}, {"\x01v\x01w\x01x\x01y\x01z\xff\x09", "v.w.x.y.z"},
	} {
		wantMessage(t, head+c.written+"\x04\x01\x00", api.Message{Name: "a.bc", Type: 1, More: []api.Record{bound(c.name, 1)}})
		wantMessage(t, head+"\x00\x03\x01\x00"+c.written, api.Message{Name: "a.bc", Type: 1, More: []api.Record{alias("", 1, c.name)}})
	}
	for _, written := range []string{
		"\xff\x12", "\xff\x13", "\xff\xff", "\xff", // not below
		"\x01x\xff\x12", "\x01x\xff\x14", "\x01x\xff\x15", // not below where it began
		"\xff\x02", "\xff\x05", "\xff\x07", "\xff\x08", "\xff\x0a", "\xff\x0d", // below, but no name there
		"\x01x\x01y\x01z\x01w\xff\x04", "\x01u\x01v\x01w\x01x\x01y\xff\x06", "\x01u\x01v\x01w\x01x\x01y\x01z\xff\x09", // too many labels
		"\x06abcdef\x01\xff\x04", // no letter
	} {
		wantNoMessage(t, head+written+"\x04\x01\x00")
		wantNoMessage(t, head+"\x00\x03\x01\x00"+written)
	}
	for _, written := range []string{"\xff\x0e", "\xff\x0f", "\xff\x10", "\x01x\xff\x0e", "\x01x\xff\x0f", "\x01x\xff\x10", "\x01x\xff\x11", "\x01x\xff\x12"} {
		wantNoMessage(t, head+written+"\x04\x01\x00")
	}
}

func TestP3JustBelow(t *testing.T) {
	wantMessage(t, "\x00\x00q\x00\xff\x03\x00\x00\x00\x00", api.Message{})
	wantMessage(t, "\x00\x00q\x00\x06abcdef\xff\x03\x00\x00\x00\x00", api.Message{Name: "abcdef"})
	wantNoMessage(t, "\x00\x00q\x00\xff\x04\x00\x00\x00\x00")
	wantNoMessage(t, "\x00\x00q\x00\x06abcdef\xff\x04\x00\x00\x00\x00")
	wantNoMessage(t, "\x00\x00q\x00\x06abcdef\xff\x05\x00\x00\x00\x00")
	// The number 255 at byte 13 leads, with the byte behind it, to byte 1; the
	// second record's name begins at byte 14.
	head := "\x00\x00q\x00\x00\x01\x02\x00\x00" + "\x00\x01\x01\x00\xff"
	wantMessage(t, head+"\x01x\xff\x0d\x04\x01\x00", api.Message{Type: 1, Answer: []api.Record{address("", 1, 255), bound("x", 1)}})
	wantNoMessage(t, head+"\xff\x0d\x04\x01\x00")
}

// Of the name at a place, what it goes on with must lie below that place, not
// just below the name that led there.
func TestP3PlacesOfPlaces(t *testing.T) {
	head := "\x00\x00q\x00\x00\x01\x02\x00\x00"
	first := "\x01a\x01b\xff\x04\x04\x01\x00" // at byte 9, its second label at 11
	for _, c := range []struct{ written, name string }{{"\xff\x09", "a.b"}, {"\xff\x0b", "b"}, {"\xff\x0d", ""}, {"\x01x\xff\x09", "x.a.b"}} {
		wantMessage(t, head+first+c.written+"\x04\x01\x00", api.Message{Type: 1, Answer: []api.Record{bound("a.b", 1), bound(c.name, 1)}})
	}
	// A target is a place to go on with, too: here at byte 13.
	target := "\x00\x02\x01\x00\x01c\x00"
	wantMessage(t, head+target+"\xff\x0d\x04\x01\x00", api.Message{Type: 1, Answer: []api.Record{server("", 1, "c"), bound("c", 1)}})
	// ID 0x09ff: the name at byte 0 would go on at byte 9, which is below the
	// record's name, but not below byte 0.
	wantNoMessage(t, "\xff\x09q\x00\x00\x01\x02\x00\x00"+"\x01a\x00\x04\x01\x00"+"\xff\x00\x04\x01\x00")
	// ID 0x00ff: the name at byte 0 would go on with itself.
	wantNoMessage(t, "\xff\x00q\x00\x00\x01\x01\x00\x00"+"\xff\x00\x04\x01\x00")
}

func TestP3BytesLessOrMore(t *testing.T) {
	for n := range len(sampleBytes) {
		wantNoMessage(t, sampleBytes[:n])
	}
	for b := range 256 {
		wantNoMessage(t, sampleBytes+string([]byte{byte(b)}))
	}
	wantNoMessage(t, sampleBytes+sampleBytes)
}

func TestP3ThousandBytes(t *testing.T) {
	longest := server(longName, 1000, longName) // 75 bytes
	m := api.Message{Answer: repeated(longest, 10), Servers: repeated(longest, 3)}
	m.More = []api.Record{bound("aaaaa.aaaaa", 1)}
	s, e := signpost.Encode(m)
	if len(s) != 1000 || e != api.OK {
		t.Errorf("P3: Encode = %d bytes, %d, want 1000", len(s), e)
	}
	wantMessage(t, s, m)
	m.More = []api.Record{bound("aaaaaa.aaaaa", 1)}
	s, e = signpost.Encode(m)
	if len(s) != 1001 || e != api.OK {
		t.Errorf("P3: Encode = %d bytes, %d, want 1001", len(s), e)
	}
	wantNoMessage(t, s)
}

// A message that fits only because its names go on with earlier ones is a
// message: Encode writes it out, though Decode would not take that.
func TestP3MessageThatIsLongWrittenOut(t *testing.T) {
	s := "\x00\x00q\x00" + "\x06uvwxyz\x06abcdef\x06ghijkl\x06mnopqr\x06stuvwx\x00" + "\x00\x0a\x0a\x0a" + strings.Repeat("\xff\x04\x02\x01\x00\xff\x04", 30)
	ten := repeated(server(longName, 1, longName), 10)
	m := api.Message{Name: longName, Answer: ten, Servers: ten, More: ten}
	wantMessage(t, s, m)
	written, e := signpost.Encode(m)
	if len(written) != 8+36+30*75 || e != api.OK {
		t.Errorf("P3: Encode = %d bytes, %d", len(written), e)
	}
	wantNoMessage(t, written)
}

// shortWriter writes messages as Encode does not: in letters of any size, and
// with names that go on with earlier ones.
type shortWriter struct {
	chance *rand.Rand
	bytes  []byte
	places map[string][]int
}

func (w *shortWriter) name(name string) {
	began := len(w.bytes)
	var labels []string
	if name != "" {
		labels = strings.Split(name, ".")
	}
	for i := 0; ; i++ {
		rest := strings.Join(labels[i:], ".")
		here, known := len(w.bytes), w.places[rest]
		w.places[rest] = append(w.places[rest], here)
		if place, ok := w.below(known, began); ok {
			w.bytes = append(w.bytes, 255, byte(place))
			return
		}
		if i == len(labels) {
			w.bytes = append(w.bytes, 0)
			return
		}
		w.bytes = append(w.bytes, byte(len(labels[i])))
		w.bytes = append(w.bytes, w.anySize(labels[i])...)
	}
}

func (w *shortWriter) below(places []int, began int) (int, bool) {
	if len(places) == 0 || w.chance.Intn(3) == 0 {
		return 0, false
	}
	place := places[w.chance.Intn(len(places))]
	return place, place < began && place < 256
}

func (w *shortWriter) anySize(label string) string {
	if w.chance.Intn(2) == 0 {
		return strings.ToUpper(label[:1]) + label[1:]
	}
	return label
}

func (w *shortWriter) record(r api.Record) {
	w.name(r.Name)
	w.bytes = append(w.bytes, byte(r.Type), byte(r.Ttl%256), byte(r.Ttl/256))
	switch r.Type {
	case api.Address:
		w.bytes = append(w.bytes, byte(r.Number))
	case api.Server, api.Alias:
		w.name(r.Target)
	}
}

func (w *shortWriter) message(m api.Message) {
	kind := byte('q')
	if m.Reply {
		kind = 'r'
	}
	w.bytes = append(w.bytes, byte(m.ID%256), byte(m.ID/256), kind, byte(m.Code))
	w.name(m.Name)
	w.bytes = append(w.bytes, byte(m.Type), byte(len(m.Answer)), byte(len(m.Servers)), byte(len(m.More)))
	for _, list := range [][]api.Record{m.Answer, m.Servers, m.More} {
		for _, r := range list {
			w.record(r)
		}
	}
}

func anyName(chance *rand.Rand) string {
	labels := []string{"a", "b", "ns", "abcdef", "zz"}
	var picked []string
	for range chance.Intn(6) {
		picked = append(picked, labels[chance.Intn(len(labels))])
	}
	return strings.Join(picked, ".")
}

func anyList(chance *rand.Rand) []api.Record {
	var list []api.Record
	for range chance.Intn(11) {
		r := api.Record{Name: anyName(chance), Type: 1 + chance.Intn(4), Ttl: 1 + chance.Intn(1000)}
		switch r.Type {
		case api.Address:
			r.Number = chance.Intn(256)
		case api.Server, api.Alias:
			r.Target = anyName(chance)
		}
		list = append(list, r)
	}
	return list
}

func TestP3ManyMessages(t *testing.T) {
	chance := rand.New(rand.NewSource(1))
	for range 3000 {
		m := api.Message{ID: chance.Intn(65536), Reply: chance.Intn(2) == 0, Code: chance.Intn(4), Name: anyName(chance), Type: chance.Intn(5),
			Answer: anyList(chance), Servers: anyList(chance), More: anyList(chance)}
		s, e := signpost.Encode(m)
		if e != api.OK {
			t.Fatalf("P3: Encode(%+v) = %d", m, e)
		}
		w := shortWriter{chance: chance, places: map[string][]int{}}
		w.message(m)
		for _, written := range []string{s, string(w.bytes)} {
			if len(written) <= api.MaxPacket {
				wantMessage(t, written, m)
			} else {
				wantNoMessage(t, written)
			}
		}
	}
}
