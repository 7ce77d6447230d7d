// Package policy: what a policy says once it is read, and its plain form.
package policy

// Policy has its hosts in the order of the plain form.
type Policy struct {
	Hosts []Host
}

// Host has its rules in the order of their numbers.
type Host struct {
	Name  string
	Rules []Rule
}

// Rule says which requests it takes, where they go, and how they are changed.
type Rule struct {
	Number  int
	Path    string
	Matches []Match
	Targets []Target // none of the weight 0
	Replace string   // empty: the path stays; what it is replaced by is never empty
	Sets    []Set
	Drops   []string
}

// Match asks for a header, and for its value too if HasValue holds: a value may be empty.
type Match struct {
	Header   string
	HasValue bool
	Value    string
}

// Target is an upstream and its share.
type Target struct {
	Upstream string
	Weight   int
}

// Set gives a header a value.
type Set struct {
	Header string
	Value  string
}
