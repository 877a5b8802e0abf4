// Package wire: the bytes of messages.
package wire

import (
	"signpost/api"
	"signpost/bounds"
	"signpost/names"
)

const (
	question = 'q'
	reply    = 'r'

	// beginning is how many bytes stand ahead of the name.
	beginning = 4

	nameEnd    = 0
	nameGoesOn = 255
)

// MaxID is the greatest ID of a message.
const MaxID = 65535

func isMessage(m api.Message) bool {
	return bounds.Between(0, m.ID, MaxID) &&
		bounds.Between(api.Fine, m.Code, api.Unknown) &&
		names.Valid(m.Name) &&
		bounds.Between(0, m.Type, api.Bound) &&
		isList(m.Answer...) && isList(m.Servers...) && isList(m.More...)
}

func isList(records ...api.Record) bool {
	if len(records) > api.MaxRecords {
		return false
	}
	for _, record := range records {
		if !isRecord(record) {
			return false
		}
	}
	return true
}

func isRecord(r api.Record) bool {
	return names.Valid(r.Name) && bounds.Between(1, r.Ttl, api.MaxTtl) && saysWhatItMay(r)
}

func saysWhatItMay(r api.Record) bool {
	switch r.Type {
	case api.Address:
		return bounds.IsAddress(r.Number) && r.Target == ""
	case api.Server, api.Alias:
		return r.Number == 0 && names.Valid(r.Target)
	case api.Bound:
		return r.Number == 0 && r.Target == ""
	}
	return false
}
