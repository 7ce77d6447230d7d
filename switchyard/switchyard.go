// Package switchyard: requests go where policies say: see DOC.md.
package switchyard

import (
	"switchyard/api"
	"switchyard/packed"
	"switchyard/policy"
	"switchyard/source"
)

// Plain writes a policy in its plain form (P3 to P5).
func Plain(text string) (string, api.Errno, int) {
	p, err, at := read(text)
	if err != api.OK {
		return "", err, at
	}
	return p.Plain(), api.OK, 0
}

func read(text string) (policy.Policy, api.Errno, int) {
	if len(text) > api.MaxText {
		return policy.Policy{}, api.ErrLong, 0
	}
	return source.Read(text)
}

// Pack packs a policy (P6).
func Pack(text string) ([]byte, api.Errno, int) {
	p, err, at := read(text)
	if err != api.OK {
		return nil, err, at
	}
	return packed.Bytes(p), api.OK, 0
}

// Unpack writes a packed policy in its plain form (P7).
func Unpack(blob []byte) (string, api.Errno) {
	p, is := packed.Read(blob)
	if !is {
		return "", api.ErrBlob
	}
	return p.Plain(), api.OK
}
