package wire

import (
	"signpost/api"
	"signpost/bounds"
	"signpost/names"
)

// Decode tells the message of bytes, or ErrForm if they are not those of one.
func Decode(s string) (m api.Message, e api.Errno) {
	defer func() {
		if recover() != nil {
			m, e = api.Message{}, api.ErrForm
		}
	}()
	r := reader{bytes: s}
	return r.message(), api.OK
}

// QuestionID tells the ID of bytes that begin as a question's do: enough to
// reply to, even if the rest is not a message's.
func QuestionID(s string) (int, bool) {
	if len(s) < beginning {
		return 0, false
	}
	r := reader{bytes: s}
	id := r.twoBytes()
	if r.oneByte() != question {
		return 0, false
	}
	return id, true
}

// notAMessage is what the reader gives up with.
type notAMessage struct{}

// must spares each step of the reader an error to hand on: Decode alone
// catches the panic.
func must(holds bool) {
	if !holds {
		panic(notAMessage{})
	}
}

type reader struct {
	bytes string
	at    int
}

func (r *reader) message() api.Message {
	must(len(r.bytes) <= api.MaxPacket)
	var m api.Message
	m.ID = r.twoBytes()
	m.Reply = r.isReply()
	m.Code = r.number(api.Fine, api.Unknown)
	m.Name = r.name()
	m.Type = r.number(0, api.Bound)
	answer := r.number(0, api.MaxRecords)
	servers := r.number(0, api.MaxRecords)
	more := r.number(0, api.MaxRecords)
	m.Answer = r.list(answer)
	m.Servers = r.list(servers)
	m.More = r.list(more)
	must(r.at == len(r.bytes))
	return m
}

func (r *reader) isReply() bool {
	kind := r.oneByte()
	must(kind == question || kind == reply)
	return kind == reply
}

func (r *reader) list(length int) []api.Record {
	if length == 0 {
		return nil
	}
	records := make([]api.Record, 0, length)
	for range length {
		records = append(records, r.record())
	}
	return records
}

func (r *reader) record() api.Record {
	var record api.Record
	record.Name = r.name()
	record.Type = r.number(api.Address, api.Bound)
	record.Ttl = r.twoBytes()
	must(bounds.Between(1, record.Ttl, api.MaxTtl))
	switch record.Type {
	case api.Address:
		record.Number = r.oneByte()
	case api.Server, api.Alias:
		record.Target = r.name()
	}
	return record
}

func (r *reader) name() string {
	labels := r.labels()
	must(len(labels) <= api.MaxLabels)
	return names.Join(labels...)
}

// labels ends because each name that it goes on with begins further down.
func (r *reader) labels() []string {
	began := r.at
	var labels []string
	for {
		length := r.oneByte()
		if length == nameEnd {
			return labels
		}
		if length == nameGoesOn {
			return append(labels, r.labelsBelow(began)...)
		}
		labels = append(labels, r.label(length))
	}
}

// labelsBelow reads by a reader of its own, so that this one stays behind the
// byte that led away.
func (r *reader) labelsBelow(began int) []string {
	place := r.oneByte()
	must(place < began)
	below := reader{bytes: r.bytes, at: place}
	return below.labels()
}

func (r *reader) label(length int) string {
	must(bounds.Between(1, length, api.MaxLabel))
	letters := make([]byte, length)
	for i := range letters {
		letters[i] = r.smallLetter()
	}
	return string(letters)
}

func (r *reader) smallLetter() byte {
	b := byte(r.oneByte())
	if 'A' <= b && b <= 'Z' {
		return b - 'A' + 'a'
	}
	must('a' <= b && b <= 'z')
	return b
}

func (r *reader) number(least, most int) int {
	n := r.oneByte()
	must(bounds.Between(least, n, most))
	return n
}

func (r *reader) twoBytes() int {
	lower := r.oneByte()
	return lower + r.oneByte()<<8
}

func (r *reader) oneByte() int {
	must(r.at < len(r.bytes))
	b := r.bytes[r.at]
	r.at++
	return int(b)
}
