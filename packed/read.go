package packed

import (
	"bytes"

	"switchyard/api"
	"switchyard/policy"
	"switchyard/source"
)

// Read answers the policy whose packed form these bytes are, and whether there is one.
// What the bytes seem to say is written as a text and read again, and what that means packed again:
// only if the same bytes come out, they are what is packed of some text. So nothing is checked on the way.
func Read(blob []byte) (policy.Policy, bool) {
	p, err, _ := source.Read(unchecked(blob).Plain())
	if err != api.OK || !bytes.Equal(Bytes(p), blob) {
		return policy.Policy{}, false
	}
	return p, true
}

// unchecked makes a policy of any bytes; it is right for those that are a packed policy.
func unchecked(blob []byte) policy.Policy {
	r := reader{rest: blob}
	r.next(len(mark))
	return policy.Policy{Hosts: several(&r, (*reader).host)}
}

type reader struct {
	rest []byte
}

// In the literals below the calls happen in the order in which they are written.

func (r *reader) host() policy.Host {
	return policy.Host{
		Name:  r.text(),
		Rules: several(r, (*reader).rule),
	}
}

func (r *reader) rule() policy.Rule {
	return policy.Rule{
		Number:  r.two(),
		Path:    r.text(),
		Matches: several(r, (*reader).match),
		Targets: several(r, (*reader).target),
		Replace: r.replace(),
		Sets:    several(r, (*reader).set),
		Drops:   several(r, (*reader).text),
	}
}

func (r *reader) match() policy.Match {
	header := r.text()
	value, there := r.perhaps()
	return policy.Match{Header: header, HasValue: there, Value: value}
}

func (r *reader) target() policy.Target {
	return policy.Target{
		Upstream: r.text(),
		Weight:   r.two(),
	}
}

func (r *reader) replace() string {
	path, _ := r.perhaps()
	return path
}

func (r *reader) set() policy.Set {
	return policy.Set{
		Header: r.text(),
		Value:  r.text(),
	}
}

func several[T any](r *reader, item func(*reader) T) []T {
	var items []T
	for range r.one() {
		items = append(items, item(r))
	}
	return items
}

func (r *reader) perhaps() (string, bool) {
	if r.one() == 0 {
		return "", false
	}
	return r.text(), true
}

func (r *reader) text() string { return string(r.next(r.one())) }

func (r *reader) one() int { return int(r.next(1)[0]) }

func (r *reader) two() int {
	low := r.one()
	return low + r.one()<<8
}

// next takes n bytes off the front. Those that are missing are noughts: then each count is 0,
// so that it ends soon, and what is packed again is longer than what came in.
func (r *reader) next(n int) []byte {
	taken := make([]byte, n)
	have := copy(taken, r.rest)
	r.rest = r.rest[have:]
	return taken
}
