// Package switchyard: requests go where policies say: see DOC.md.
package switchyard

import (
	"switchyard/api"
	"switchyard/packed"
	"switchyard/policy"
	"switchyard/source"
)

// Plain writes a policy in its plain form (P3 to P5).
func Plain(text string) (string, api.Errno, int) {
	p, err, at := read(text)
	if err != api.OK {
		return "", err, at
	}
	return p.Plain(), api.OK, 0
}

func read(text string) (policy.Policy, api.Errno, int) {
	if len(text) > api.MaxText {
		return policy.Policy{}, api.ErrLong, 0
	}
	return source.Read(text)
}

// Pack packs a policy (P6).
func Pack(text string) ([]byte, api.Errno, int) {
	p, err, at := read(text)
	if err != api.OK {
		return nil, err, at
	}
	return packed.Bytes(p), api.OK, 0
}

// Unpack writes a packed policy in its plain form (P7).
func Unpack(blob []byte) (string, api.Errno) {
	p, is := packed.Read(blob)
	if !is {
		return "", api.ErrBlob
	}
	return p.Plain(), api.OK
}

// Yard takes the bytes of many connections.
type Yard struct{}

// New makes one (P8).
func New() *Yard { return nil }

// Push takes a packed policy (P8).
func (y *Yard) Push(blob []byte) api.Errno { return api.OK }

// Draw lays a number behind those that are drawn (P9).
func (y *Yard) Draw(n uint64) {}

// Open begins a connection (P10).
func (y *Yard) Open() (int, api.Errno) { return 0, api.OK }

// Feed takes bytes of a connection (P11).
func (y *Yard) Feed(conn int, b []byte) api.Errno { return api.OK }

// Close ends a connection (P10).
func (y *Yard) Close(conn int) api.Errno { return api.OK }

// Events tells what came out since it was asked last (P12).
func (y *Yard) Events() []api.Event { return nil }
