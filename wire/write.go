package wire

import (
	"strings"

	"signpost/api"
	"signpost/names"
)

// Encode tells a message's bytes, or ErrArg if it is no message. MaxPacket
// bounds what is read only: a message may be longer, written out.
func Encode(m api.Message) (string, api.Errno) {
	if !isMessage(m) {
		return "", api.ErrArg
	}
	return messageBytes(m), api.OK
}

func messageBytes(m api.Message) string {
	return together(
		twoBytes(m.ID),
		oneByte(kindOf(m)),
		oneByte(m.Code),
		nameBytes(names.Labels(m.Name)...),
		oneByte(m.Type),
		oneByte(len(m.Answer)),
		oneByte(len(m.Servers)),
		oneByte(len(m.More)),
		listBytes(m.Answer...),
		listBytes(m.Servers...),
		listBytes(m.More...),
	)
}

func kindOf(m api.Message) int {
	if m.Reply {
		return reply
	}
	return question
}

func listBytes(records ...api.Record) string {
	parts := make([]string, 0, len(records))
	for _, record := range records {
		parts = append(parts, recordBytes(record))
	}
	return together(parts...)
}

func recordBytes(r api.Record) string {
	return together(
		nameBytes(names.Labels(r.Name)...),
		oneByte(r.Type),
		twoBytes(r.Ttl),
		saidBytes(r),
	)
}

func saidBytes(r api.Record) string {
	switch r.Type {
	case api.Address:
		return oneByte(r.Number)
	case api.Server, api.Alias:
		return nameBytes(names.Labels(r.Target)...)
	}
	return ""
}

func nameBytes(labels ...string) string {
	parts := make([]string, 0, 2*len(labels)+1)
	for _, label := range labels {
		parts = append(parts, oneByte(len(label)), label)
	}
	return together(append(parts, oneByte(nameEnd))...)
}

func oneByte(n int) string {
	return string([]byte{byte(n)})
}

func twoBytes(n int) string {
	return string([]byte{byte(n), byte(n >> 8)})
}

func together(parts ...string) string {
	return strings.Join(parts, "")
}
