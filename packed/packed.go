// Package packed: policies as bytes, and back.
package packed

import "switchyard/policy"

const mark = "SY1"

// Bytes packs a policy that keeps to the bounds: each count and each length of it fits into a byte.
func Bytes(p policy.Policy) []byte {
	ahead := joined([]byte(mark), counted(host, p.Hosts...))
	return joined(ahead, four(sum(ahead)))
}

func host(h policy.Host) []byte {
	return joined(text(h.Name), counted(rule, h.Rules...))
}

func rule(r policy.Rule) []byte {
	return joined(
		two(r.Number),
		text(r.Path),
		counted(match, r.Matches...),
		counted(target, r.Targets...),
		perhaps(r.Replace != "", r.Replace),
		counted(set, r.Sets...),
		counted(text, r.Drops...),
	)
}

func match(m policy.Match) []byte {
	return joined(text(m.Header), perhaps(m.HasValue, m.Value))
}

func target(t policy.Target) []byte {
	return joined(text(t.Upstream), two(t.Weight))
}

func set(s policy.Set) []byte {
	return joined(text(s.Header), text(s.Value))
}

// counted packs how many there are, and each of them.
func counted[T any](pack func(T) []byte, items ...T) []byte {
	out := one(len(items))
	for _, item := range items {
		out = joined(out, pack(item))
	}
	return out
}

func perhaps(there bool, s string) []byte {
	if !there {
		return one(0)
	}
	return joined(one(1), text(s))
}

func text(s string) []byte {
	return joined(one(len(s)), []byte(s))
}

func one(n int) []byte { return []byte{byte(n)} }

func two(n int) []byte { return joined(one(n), one(n>>8)) }

func four(n uint32) []byte { return joined(two(int(n&0xffff)), two(int(n>>16))) }

// joined puts pieces behind one another into new memory.
func joined(pieces ...[]byte) []byte {
	var out []byte
	for _, piece := range pieces {
		out = append(out, piece...)
	}
	return out
}
