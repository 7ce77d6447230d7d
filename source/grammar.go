package source

import (
	"slices"

	"switchyard/api"
	"switchyard/letters"
	"switchyard/policy"
)

func (r *reader) hosts() []policy.Host {
	var hosts []policy.Host
	for r.sees("host") {
		hosts = append(hosts, r.host(hosts))
	}
	return hosts
}

func (r *reader) host(earlier []policy.Host) policy.Host {
	r.oneMore(len(earlier), api.MaxHosts)
	r.take("host")
	host := policy.Host{Name: r.hostName(earlier)}
	r.take("{")
	for r.sees("rule") {
		host.Rules = append(host.Rules, r.rule(host.Rules))
	}
	r.take("}")
	return host
}

func (r *reader) hostName(earlier []policy.Host) string {
	s, at := r.takeString()
	name := letters.Small(s)
	same := func(h policy.Host) bool { return h.Name == name }
	r.noteIf(!policy.IsHost(s), api.ErrValue, at)
	r.noteIf(slices.ContainsFunc(earlier, same), api.ErrTwice, at)
	return name
}

func (r *reader) rule(earlier []policy.Rule) policy.Rule {
	r.oneMore(len(earlier), api.MaxRules)
	r.take("rule")
	rule := policy.Rule{Number: r.ruleNumber(earlier)}
	r.take("{")
	rule.Path = r.path("path")
	for r.sees("header") {
		rule.Matches = append(rule.Matches, r.match(len(rule.Matches)))
	}
	rule.Targets = r.targets()
	if r.sees("replace") {
		rule.Replace = r.path("replace")
	}
	for r.sees("set") {
		rule.Sets = append(rule.Sets, r.set(rule))
	}
	for r.sees("drop") {
		rule.Drops = append(rule.Drops, r.drop(rule))
	}
	r.take("}")
	return rule
}

func (r *reader) ruleNumber(earlier []policy.Rule) int {
	n, at := r.takeNumber()
	same := func(rule policy.Rule) bool { return rule.Number == n }
	r.noteIf(n > api.MaxNumber, api.ErrValue, at)
	r.noteIf(slices.ContainsFunc(earlier, same), api.ErrTwice, at)
	return n
}

// path reads what stands behind path and replace alike.
func (r *reader) path(word string) string {
	r.take(word)
	s, at := r.takeString()
	r.noteIf(!policy.IsPath(s), api.ErrValue, at)
	r.take(";")
	return s
}

func (r *reader) match(have int) policy.Match {
	r.oneMore(have, api.MaxMatches)
	r.take("header")
	header, _ := r.header()
	match := policy.Match{Header: header}
	if r.sees("=") {
		match.HasValue = true
		match.Value = r.value()
	}
	r.take(";")
	return match
}

func (r *reader) header() (string, int) {
	s, at := r.takeString()
	r.noteIf(!policy.IsHeader(s), api.ErrValue, at)
	return letters.Small(s), at
}

func (r *reader) value() string {
	r.take("=")
	s, at := r.takeString()
	r.noteIf(!policy.IsValue(s), api.ErrValue, at)
	return s
}

// targets leaves out those of the weight 0, but counts them.
func (r *reader) targets() []policy.Target {
	begin := r.token.at
	r.take("to")
	targets := []policy.Target{r.target(0)}
	for r.sees(",") {
		r.take(",")
		targets = append(targets, r.target(len(targets)))
	}
	r.take(";")
	targets = slices.DeleteFunc(targets, func(t policy.Target) bool { return t.Weight == 0 })
	r.noteIf(len(targets) == 0, api.ErrValue, begin)
	return targets
}

func (r *reader) target(have int) policy.Target {
	r.oneMore(have, api.MaxTargets)
	upstream, at := r.takeString()
	r.noteIf(!policy.IsUpstream(upstream), api.ErrValue, at)
	weight, at := r.takeNumber()
	r.noteIf(weight > api.MaxWeight, api.ErrValue, at)
	return policy.Target{Upstream: upstream, Weight: weight}
}

func (r *reader) set(rule policy.Rule) policy.Set {
	r.oneMore(len(rule.Sets), api.MaxEdits)
	r.take("set")
	header := r.edited(rule)
	value := r.value()
	r.take(";")
	return policy.Set{Header: header, Value: value}
}

func (r *reader) drop(rule policy.Rule) string {
	r.oneMore(len(rule.Drops), api.MaxEdits)
	r.take("drop")
	header := r.edited(rule)
	r.take(";")
	return header
}

// edited reads a header that is set or dropped, which a rule does but once.
func (r *reader) edited(rule policy.Rule) string {
	header, at := r.header()
	same := func(set policy.Set) bool { return set.Header == header }
	twice := slices.ContainsFunc(rule.Sets, same) || slices.Contains(rule.Drops, header)
	r.noteIf(twice, api.ErrTwice, at)
	return header
}
