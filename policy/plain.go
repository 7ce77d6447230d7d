package policy

import (
	"strconv"
	"strings"
)

// Plain writes the policy in its plain form.
func (p Policy) Plain() string {
	var w writer
	for _, host := range p.Hosts {
		w.host(host)
	}
	return w.out.String()
}

// writer puts lines behind one another, each as far in as brackets are open.
type writer struct {
	out  strings.Builder
	open int
}

func (w *writer) line(parts ...string) {
	w.out.WriteString(strings.Repeat("  ", w.open))
	for _, part := range parts {
		w.out.WriteString(part)
	}
	w.out.WriteByte('\n')
}

func (w *writer) host(host Host) {
	w.line("host ", quoted(host.Name), " {")
	w.open++
	for _, rule := range host.Rules {
		w.rule(rule)
	}
	w.open--
	w.line("}")
}

func (w *writer) rule(rule Rule) {
	w.line("rule ", strconv.Itoa(rule.Number), " {")
	w.open++
	w.line("path ", quoted(rule.Path), ";")
	for _, match := range rule.Matches {
		w.match(match)
	}
	w.line("to ", listed(rule.Targets...), ";")
	if rule.Replace != "" {
		w.line("replace ", quoted(rule.Replace), ";")
	}
	for _, set := range rule.Sets {
		w.line("set ", quoted(set.Header), " = ", quoted(set.Value), ";")
	}
	for _, header := range rule.Drops {
		w.line("drop ", quoted(header), ";")
	}
	w.open--
	w.line("}")
}

func (w *writer) match(match Match) {
	if match.HasValue {
		w.line("header ", quoted(match.Header), " = ", quoted(match.Value), ";")
		return
	}
	w.line("header ", quoted(match.Header), ";")
}

func listed(targets ...Target) string {
	parts := make([]string, 0, len(targets))
	for _, target := range targets {
		parts = append(parts, quoted(target.Upstream)+" "+strconv.Itoa(target.Weight))
	}
	return strings.Join(parts, ", ")
}

// No string of a policy has a quote within, so nothing is escaped.
func quoted(s string) string {
	return "\"" + s + "\""
}
