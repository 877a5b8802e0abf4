package signpost_test

import (
	"strings"
	"testing"

	"signpost/api"
)

func broken(number int, idBytes string) api.Reply {
	return api.Reply{Number: number, Bytes: idBytes + "r\x01\x00\x00\x00\x00\x00"}
}

func TestP5ItIsSentToTheFirstHint(t *testing.T) {
	x := made(t, settings(9, 8, 7))
	wantAsk(t, x, "\x05\x00q\x00\x01a\x01b\x00\x01\x00\x00\x00", 0)
	wantSent(t, x, 0, api.Packet{Address: 9, Bytes: "\x01\x00q\x00\x01a\x01b\x00\x01\x00\x00\x00"})
	wantAsk(t, x, question(t, 65535, longName, api.Server), 1)
	wantAsk(t, x, question(t, 0, "", api.Alias), 2)
	wantSent(t, x, 1, packet(t, 9, 2, longName, api.Server), packet(t, 9, 3, "", api.Alias))
	wantReplies(t, x, 0)
}

// The same question twice is two questions.
func TestP5TheSameQuestionAgain(t *testing.T) {
	x := made(t, settings(9))
	for i := range 3 {
		wantAsk(t, x, question(t, 5, "a.b", api.Address), i)
	}
	wantSent(t, x, 0, packet(t, 9, 1, "a.b", 1), packet(t, 9, 2, "a.b", 1), packet(t, 9, 3, "a.b", 1))
}

func TestP5HoweverTheNameIsWritten(t *testing.T) {
	x := made(t, settings(9))
	wantAsk(t, x, "\x05\x00q\x00\x02Ab\x01C\x00\x01\x00\x00\x00", 0)
	wantAsk(t, x, "\x05\x00q\x00\x01Z\xff\x03\x02\x00\x00\x00", 1)
	wantAsk(t, x, "\x00\x00q\x00\xff\x01\x03\x00\x00\x00", 2)
	wantSent(t, x, 0, packet(t, 9, 1, "ab.c", 1), packet(t, 9, 2, "z", 2), packet(t, 9, 3, "", 3))
	ticks(x, 6)
	wantReplies(t, x, 0, failed(t, 0, 5, "ab.c", 1), failed(t, 1, 5, "z", 2), failed(t, 2, 0, "", 3))
}

func TestP5Short(t *testing.T) {
	x := made(t, settings(9))
	for _, s := range []string{"", "q", "qq", "qqq", "\x01", "\x01\x02", "\x01\x02q", "\x01\x02r", "\x01\x02r\x00", "\x01\x02Q\x00", "q\x00\x00q",
		"\x00q\x00\x00", "\x00\x00\x00q", strings.Repeat("a", 1<<20), sampleBytes, bytesOf(t, api.Message{Reply: true, Name: "a", Type: 1})} {
		wantNoAsk(t, x, s, api.ErrShort)
	}
	for b := range 256 {
		if b != 'q' {
			wantNoAsk(t, x, "\x05\x00"+string([]byte{byte(b)})+"\x00\x01a\x00\x01\x00\x00\x00", api.ErrShort)
		}
	}
	wantSent(t, x, 0)
	wantReplies(t, x, 0)
	wantAsk(t, x, question(t, 5, "a", 1), 0)
	wantSent(t, x, 0, packet(t, 9, 1, "a", 1))
}

// wrongQuestions have the ID 261.
func wrongQuestions(t *testing.T) []string {
	wrong := []string{"\x05\x01q\x00", "\x05\x01qq", "\x05\x01q\xff\xff", "\x05\x01q\x00\x00\x01\x00\x00", "\x05\x01q\x00\x00\x01\x00\x00\x00\x00",
		"\x05\x01q\x04\x00\x01\x00\x00\x00", "\x05\x01q\x00\x07abcdefg\x00\x01\x00\x00\x00", "\x05\x01q\x00\x01-\x00\x01\x00\x00\x00",
		"\x05\x01q\x00\xff\x04\x01\x00\x00\x00", "\x05\x01q\x00\x00\x05\x00\x00\x00", "\x05\x01q\x00\x00\xff\x00\x00\x00", "\x05\x01q\x00" + strings.Repeat("\x00", 1<<20)}
	record := []api.Record{address("a", 1, 1)}
	for _, m := range []api.Message{{Code: api.Broken, Type: 1}, {Code: api.Failed, Type: 1}, {Code: api.Unknown, Type: 1}, {Type: 0}, {Type: api.Bound},
		{Type: 1, Answer: record}, {Type: 2, Servers: record}, {Type: 3, More: record}, {Code: 1, Type: 0, Answer: record, Servers: record, More: record}} {
		m.ID, m.Name = 261, "a.b"
		wrong = append(wrong, bytesOf(t, m))
	}
	return wrong
}

func TestP5Broken(t *testing.T) {
	x := made(t, settings(9))
	for i, s := range wrongQuestions(t) {
		wantAsk(t, x, s, i)
		wantReplies(t, x, i, broken(i, "\x05\x01"))
	}
	ticks(x, 20)
	wantSent(t, x, 0)
	count := len(wrongQuestions(t))
	for i, idBytes := range []string{"\x00\x00", "\xff\xff", "q\x00", "\x00q", "\x01\xff"} {
		wantAsk(t, x, idBytes+"q-", count+i)
		wantReplies(t, x, count+i, broken(count+i, idBytes))
	}
}

func TestP5EightTasksAndANinth(t *testing.T) {
	x := made(t, settings(9))
	q := question(t, 5, "a", 1)
	for i := range 8 {
		wantAsk(t, x, q, i)
	}
	wantNoAsk(t, x, q, api.ErrBusy)
	wantNoAsk(t, x, question(t, 6, "b", 2), api.ErrBusy)
	for _, s := range wrongQuestions(t) {
		wantNoAsk(t, x, s, api.ErrBusy)
	}
	wantNoAsk(t, x, "", api.ErrShort)
	wantNoAsk(t, x, "\x01\x02q", api.ErrShort)
	wantNoAsk(t, x, sampleBytes, api.ErrShort)
	wantReplies(t, x, 0)
	wantSent(t, x, 7, packet(t, 9, 8, "a", 1))
	ticks(x, 5)
	wantNoAsk(t, x, q, api.ErrBusy)
	x.Tick()
	wantAsk(t, x, "\x05\x01q-", 8)
	for i := range 8 {
		wantAsk(t, x, q, 9+i)
	}
	wantNoAsk(t, x, q, api.ErrBusy)
}

// Questions that are told at once are no tasks that wait.
func TestP5WrongQuestionsBetweenOthers(t *testing.T) {
	x := made(t, settings(9))
	for i := range 7 {
		wantAsk(t, x, question(t, i, "a", 1), 3*i)
		wantAsk(t, x, "\x05\x01q-", 3*i+1)
		wantAsk(t, x, "\x06\x01q-", 3*i+2)
	}
	wantAsk(t, x, "\x07\x01q-", 21)
	wantAsk(t, x, question(t, 9, "a", 1), 22)
	wantNoAsk(t, x, "\x07\x01q-", api.ErrBusy)
	wantReplies(t, x, 13, broken(20, "\x06\x01"), broken(21, "\x07\x01"))
	wantReplies(t, x, 15)
}
