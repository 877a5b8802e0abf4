// Package wire: the bytes of messages.
package wire

import (
	"signpost/api"
	"signpost/names"
)

const (
	question = 'q'
	reply    = 'r'

	nameEnd    = 0
	nameGoesOn = 255

	maxID     = 65535
	maxNumber = 255
)

func isMessage(m api.Message) bool {
	return between(0, m.ID, maxID) &&
		between(api.Fine, m.Code, api.Unknown) &&
		names.Valid(m.Name) &&
		between(0, m.Type, api.Bound) &&
		isList(m.Answer...) && isList(m.Servers...) && isList(m.More...)
}

func isList(records ...api.Record) bool {
	if len(records) > api.MaxRecords {
		return false
	}
	for _, record := range records {
		if !isRecord(record) {
			return false
		}
	}
	return true
}

func isRecord(r api.Record) bool {
	return names.Valid(r.Name) && between(1, r.Ttl, api.MaxTtl) && saysWhatItMay(r)
}

func saysWhatItMay(r api.Record) bool {
	switch r.Type {
	case api.Address:
		return between(0, r.Number, maxNumber) && r.Target == ""
	case api.Server, api.Alias:
		return r.Number == 0 && names.Valid(r.Target)
	case api.Bound:
		return r.Number == 0 && r.Target == ""
	}
	return false
}

func between(least, n, most int) bool {
	return least <= n && n <= most
}
