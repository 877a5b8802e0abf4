package signpost

import (
	"signpost/api"
	"signpost/bounds"
	"signpost/wire"
)

// mayBe tells whether there can be a resolver of these settings.
func mayBe(c api.Config) bool {
	return areHints(c.Hints...) &&
		bounds.Between(api.MinEntries, c.Entries, api.MaxEntries) &&
		bounds.Between(1, c.Tries, api.MaxTries) &&
		bounds.Between(1, c.Patience, api.MaxWait) &&
		bounds.Between(1, c.MaxTtl, api.MaxTtl)
}

func areHints(addresses ...int) bool {
	if !bounds.Between(1, len(addresses), api.MaxHints) {
		return false
	}
	for _, address := range addresses {
		if !bounds.IsAddress(address) {
			return false
		}
	}
	return true
}

// questionOf tells the message of bytes, if it is one that asks for something,
// and does nothing else.
func questionOf(s string) (api.Message, bool) {
	m, e := wire.Decode(s)
	return m, e == api.OK && m.Code == api.Fine && !hasRecords(m) && canBeAskedFor(m.Type)
}

func hasRecords(m api.Message) bool {
	return len(m.Answer)+len(m.Servers)+len(m.More) > 0
}

func canBeAskedFor(kind int) bool {
	return bounds.Between(api.Address, kind, api.Alias)
}
