// Package route: finds the rule of a policy that counts for a request, and the target that it goes to.
package route

import (
	"slices"

	"switchyard/policy"
	"switchyard/request"
)

// Table is a policy, laid out so that its hosts and paths are found soon.
type Table struct {
	hosts map[key]host
}

// host has its rules by their numbers, and the program that finds them by their paths.
type host struct {
	rules []policy.Rule
	paths program
}

// New lays out a policy.
func New(p policy.Policy) *Table {
	hosts := make(map[key]host, len(p.Hosts))
	for _, h := range p.Hosts {
		hosts[keyOf(h.Name)] = host{rules: h.Rules, paths: programOf(h.Rules...)}
	}
	return &Table{hosts: hosts}
}

// Find answers the rule that counts for a whole head, and whether there is one.
func (t *Table) Find(head *request.Head) (policy.Rule, bool) {
	h, found := t.host(head.Host())
	if !found {
		return policy.Rule{}, false
	}
	return h.rule(head)
}

// rule goes through the rules by their numbers, not by how long their paths are.
func (h host) rule(head *request.Head) (policy.Rule, bool) {
	places := h.paths.run(head.Path())
	slices.Sort(places)
	for _, place := range places {
		if rule := h.rules[place]; head.Meets(rule.Matches...) {
			return rule, true
		}
	}
	return policy.Rule{}, false
}
