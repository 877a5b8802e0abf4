// Package signpost: names, asked from server to server: see DOC.md.
package signpost

import (
	"signpost/api"
	"signpost/wire"
)

// Encode tells a message's bytes (P3).
func Encode(m api.Message) (string, api.Errno) { return wire.Encode(m) }

// Decode tells the message of bytes (P3).
func Decode(s string) (api.Message, api.Errno) { return wire.Decode(s) }

// Resolver finds out what names mean.
type Resolver struct{}

// New makes a resolver (P4).
func New(c api.Config) (*Resolver, api.Errno) { return nil, api.OK }

// Ask takes a question of a client (P5).
func (x *Resolver) Ask(s string) (int, api.Errno) { return 0, api.OK }

// Deliver takes packets (P6).
func (x *Resolver) Deliver(packets ...api.Packet) {}

// Tick lets time go by (P6).
func (x *Resolver) Tick() {}

// Sent tells what was sent (P7).
func (x *Resolver) Sent(from int) []api.Packet { return nil }

// Replies tells what clients were told (P7).
func (x *Resolver) Replies(from int) []api.Reply { return nil }

// Entries tells what is remembered (P7).
func (x *Resolver) Entries() []api.Entry { return nil }
