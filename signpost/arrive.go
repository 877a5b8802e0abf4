package signpost

import (
	"slices"
	"sync"

	"signpost/api"
	"signpost/wire"
)

// sideBySide bounds how many packets are read at one time, so that a list of
// any length needs no more goroutines than that.
const sideBySide = 256

// arrival is a packet that was read.
type arrival struct {
	from    int
	message api.Message
}

// arrivals reads packets, and tells in their order what came of each.
func arrivals(packets ...api.Packet) []arrival {
	var all []arrival
	for some := range slices.Chunk(packets, sideBySide) {
		all = append(all, readTogether(some...)...)
	}
	return all
}

// readTogether reads each packet by a goroutine of its own.
func readTogether(packets ...api.Packet) []arrival {
	read := make([]arrival, len(packets))
	var readers sync.WaitGroup
	for i, p := range packets {
		readers.Add(1)
		go func() {
			defer readers.Done()
			read[i] = arrived(p)
		}()
	}
	readers.Wait()
	return read
}

// arrived reads a packet. Bytes that are no message's come to a message of
// noughts: that is no reply, so nobody waits for it.
func arrived(p api.Packet) arrival {
	m, _ := wire.Decode(p.Bytes)
	return arrival{p.Address, m}
}
