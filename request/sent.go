package request

import (
	"strconv"
	"strings"

	"switchyard/letters"
	"switchyard/policy"
)

// Sent writes a whole head as it goes to an upstream, changed as a rule says whose path its target begins with.
func (h *Head) Sent(rule policy.Rule) string {
	first := line(h.method, " ", replaced(h.target, rule), " ", version)
	return first + lines(edited(rule, h.headers...)...) + line()
}

func replaced(target string, rule policy.Rule) string {
	if rule.Replace == "" {
		return target
	}
	return rule.Replace + strings.TrimPrefix(target, rule.Path)
}

// edited need not mind whether it drops or sets first: a rule has each name but once.
func edited(rule policy.Rule, list ...header) []header {
	for _, name := range rule.Drops {
		list = without(name, list...)
	}
	for _, set := range rule.Sets {
		list = with(header{name: set.Header, value: set.Value}, list...)
	}
	return list
}

func without(name string, list ...header) []header {
	var kept []header
	for _, one := range list {
		if one.name != name {
			kept = append(kept, one)
		}
	}
	return kept
}

// with puts a header where the first one of its name stands, and leaves out the others of that name.
func with(next header, list ...header) []header {
	var kept []header
	there := false
	for _, one := range list {
		switch {
		case one.name != next.name:
			kept = append(kept, one)
		case !there:
			kept = append(kept, next)
			there = true
		}
	}
	if !there {
		kept = append(kept, next)
	}
	return kept
}

func lines(list ...header) string {
	var out strings.Builder
	for _, one := range list {
		out.WriteString(line(one.name, ": ", sentValue(one)))
	}
	return out.String()
}

func sentValue(one header) string {
	switch one.name {
	case "host":
		return letters.Small(one.value)
	case "content-length":
		return strconv.Itoa(number(one.value))
	}
	return one.value
}

// line puts parts together, and a line end behind them.
func line(parts ...string) string {
	return strings.Join(parts, "") + "\r\n"
}
