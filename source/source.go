// Package source: reads the text of a policy, and tells the first fault in it.
package source

import (
	"cmp"
	"slices"

	"switchyard/api"
	"switchyard/policy"
)

// Read reads a text of any length. With an error comes its place, and no policy.
func Read(text string) (policy.Policy, api.Errno, int) {
	r := reader{text: text}
	r.look(0)
	hosts := r.hosts()
	r.takeEnd()
	// A text that is no policy has no other fault, wherever that would stand.
	if r.broken {
		return policy.Policy{}, api.ErrText, r.token.at
	}
	if r.fault.err != api.OK {
		return policy.Policy{}, r.fault.err, r.fault.at
	}
	return inOrder(hosts), api.OK, 0
}

// inOrder sorts hosts and rules as the plain form has them.
func inOrder(hosts []policy.Host) policy.Policy {
	slices.SortFunc(hosts, func(a, b policy.Host) int { return cmp.Compare(a.Name, b.Name) })
	for _, host := range hosts {
		slices.SortFunc(host.Rules, func(a, b policy.Rule) int { return cmp.Compare(a.Number, b.Number) })
	}
	return policy.Policy{Hosts: hosts}
}
