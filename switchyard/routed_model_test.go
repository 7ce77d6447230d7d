package switchyard_test

import (
	"fmt"
	"math/rand"
	"slices"
	"strings"

	"switchyard/api"
)

// A second reading of what the document says of yards with a policy: slow and plain, made of what policies are written from, not of packed ones.

type modelHost struct {
	name  string
	rules []modelRule
}

type modelRule struct {
	number  int
	path    string
	matches []modelMatch
	targets []modelTarget
	replace string // empty: none
	sets    []modelSet
	drops   []string
}

type modelMatch struct {
	header, value string
	hasValue      bool
}

type modelTarget struct {
	upstream string
	weight   int
}

type modelSet struct{ header, value string }

// written is a text of a policy.
func written(hosts []modelHost) string {
	var out strings.Builder
	for _, host := range hosts {
		fmt.Fprintf(&out, "host %q {", host.name)
		for _, rule := range host.rules {
			out.WriteString(rule.written())
		}
		out.WriteString("}\n")
	}
	return out.String()
}

func (r modelRule) written() string {
	var out strings.Builder
	fmt.Fprintf(&out, "rule %d{path%q;", r.number, r.path)
	for _, match := range r.matches {
		fmt.Fprintf(&out, "header%q", match.header)
		if match.hasValue {
			fmt.Fprintf(&out, "=%q", match.value)
		}
		out.WriteString(";")
	}
	for i, target := range r.targets {
		fmt.Fprintf(&out, "%s%q%d", []string{"to", ","}[min(i, 1)], target.upstream, target.weight)
	}
	out.WriteString(";")
	if r.replace != "" {
		fmt.Fprintf(&out, "replace%q;", r.replace)
	}
	for _, set := range r.sets {
		fmt.Fprintf(&out, "set%q=%q;", set.header, set.value)
	}
	for _, drop := range r.drops {
		fmt.Fprintf(&out, "drop%q;", drop)
	}
	return out.String() + "}"
}

// modelYard does what a yard must do.
type modelYard struct {
	hosts  []modelHost
	has    bool // a policy
	draws  []uint64
	conns  []*modelConn
	events []api.Event
}

// modelConn has the bytes that nothing came of yet.
type modelConn struct {
	over    bool
	rest    string
	decided bool
	to      string
	head    string
	body    int
}

func (y *modelYard) open() (int, api.Errno) {
	if len(y.conns) == api.MaxConns {
		return 0, api.ErrConn
	}
	y.conns = append(y.conns, &modelConn{})
	return len(y.conns), api.OK
}

func (y *modelYard) isOver(conn int) bool {
	return conn < 1 || conn > len(y.conns) || y.conns[conn-1].over
}

func (y *modelYard) close(conn int) api.Errno {
	if y.isOver(conn) {
		return api.ErrConn
	}
	y.conns[conn-1].over = true
	return api.OK
}

func (y *modelYard) feed(conn int, s string) api.Errno {
	if y.isOver(conn) {
		return api.ErrConn
	}
	c := y.conns[conn-1]
	for c.rest += s; !c.over; {
		if !c.decided {
			size, body, refused := judged(c.rest)
			if refused != "" {
				y.events = append(y.events, back(conn, refused))
				c.over = true
			}
			if size == 0 {
				break
			}
			c.to, c.head = y.decide(c.rest[:size])
			c.rest, c.body, c.decided = c.rest[size:], body, true
		}
		if len(c.rest) < c.body {
			break
		}
		event := onward(conn, c.to, c.head)
		if c.to != "" {
			event.Data += c.rest[:c.body]
		}
		y.events = append(y.events, event)
		c.rest, c.decided = c.rest[c.body:], false
	}
	return api.OK
}

// decide tells where a head goes, and as what.
func (y *modelYard) decide(head string) (to, out string) {
	if !y.has {
		return "", api.NoPolicy
	}
	lines := strings.Split(head, "\r\n")
	parts := strings.Split(lines[0], " ")
	var headers [][2]string
	host := ""
	for _, line := range lines[1 : len(lines)-2] {
		found := headerForm.FindStringSubmatch(line + "\r\n")
		name, value := strings.ToLower(found[1]), found[2]
		switch name {
		case "host":
			value = strings.ToLower(value)
			host = strings.Split(value, ":")[0]
		case "content-length":
			for len(value) > 1 && value[0] == '0' {
				value = value[1:]
			}
		}
		headers = append(headers, [2]string{name, value})
	}
	rule := modelFind(y.hosts, host, strings.Split(parts[1], "?")[0], headers)
	if rule == nil {
		return "", api.NoRoute
	}
	if rule.replace != "" {
		parts[1] = rule.replace + parts[1][len(rule.path):]
	}
	out = strings.Join(parts, " ") + "\r\n"
	for _, header := range modelEdit(rule, headers) {
		out += header[0] + ": " + header[1] + "\r\n"
	}
	return y.pick(rule), out + "\r\n"
}

// modelFind puts the hosts into the order in which they count, and takes the first.
func modelFind(hosts []modelHost, host, path string, headers [][2]string) *modelRule {
	var fitting []modelHost
	for _, h := range hosts {
		name := strings.ToLower(h.name)
		if name == host || name == "*" || strings.HasPrefix(name, "*.") && strings.HasSuffix(host, name[1:]) && len(host) > len(name)-1 {
			fitting = append(fitting, h)
		}
	}
	if len(fitting) == 0 {
		return nil
	}
	rank := func(h modelHost) int {
		switch {
		case strings.ToLower(h.name) == host:
			return 1000
		case h.name == "*":
			return 0
		}
		return len(h.name)
	}
	slices.SortFunc(fitting, func(a, b modelHost) int { return rank(b) - rank(a) })
	var best *modelRule
	for _, rule := range fitting[0].rules {
		if strings.HasPrefix(path, rule.path) && modelHas(rule, headers) && (best == nil || rule.number < best.number) {
			best = &rule
		}
	}
	return best
}

func modelHas(rule modelRule, headers [][2]string) bool {
	for _, match := range rule.matches {
		if !slices.ContainsFunc(headers, func(h [2]string) bool {
			return h[0] == strings.ToLower(match.header) && (!match.hasValue || h[1] == match.value)
		}) {
			return false
		}
	}
	return true
}

func modelEdit(rule *modelRule, headers [][2]string) [][2]string {
	out := slices.Clone(headers)
	for _, drop := range rule.drops {
		out = slices.DeleteFunc(out, func(h [2]string) bool { return h[0] == strings.ToLower(drop) })
	}
	for _, set := range rule.sets {
		name := strings.ToLower(set.header)
		i := slices.IndexFunc(out, func(h [2]string) bool { return h[0] == name })
		if i < 0 {
			out = append(out, [2]string{name, set.value})
			continue
		}
		behind := slices.DeleteFunc(slices.Clone(out[i+1:]), func(h [2]string) bool { return h[0] == name })
		out = append(append(out[:i:i], [2]string{name, set.value}), behind...)
	}
	return out
}

// pick writes each target as often as it weighs.
func (y *modelYard) pick(rule *modelRule) string {
	var slots, different []string
	for _, target := range rule.targets {
		if target.weight > 0 {
			different = append(different, target.upstream)
		}
		slots = append(slots, slices.Repeat([]string{target.upstream}, target.weight)...)
	}
	if len(different) == 1 {
		return different[0]
	}
	n := uint64(0)
	if len(y.draws) > 0 {
		n, y.draws = y.draws[0], y.draws[1:]
	}
	return slots[n%uint64(len(slots))]
}

// somePolicy has few different names and paths, so that many fit many requests.
func somePolicy(source *rand.Rand) []modelHost {
	var hosts []modelHost
	for _, i := range source.Perm(len(modelHosts))[:source.Intn(api.MaxHosts+1)] {
		host := modelHost{name: modelHosts[i]}
		for _, number := range source.Perm(api.MaxRules * 2)[:source.Intn(api.MaxRules+1)] {
			host.rules = append(host.rules, someRule(source, number*number*400))
		}
		hosts = append(hosts, host)
	}
	return hosts
}

var (
	modelHosts = []string{"a", "B", "a.B", "*", "*.a", "*.b", "*.A.b", "*.c.a.b", "c.a.b"}
	modelNames = []string{"k", "J", "x-y", "Z", "q0", "cookie", "via"}
	modelWords = []string{"", "1", "2", "a b", "V"}
)

func someRule(source *rand.Rand, number int) modelRule {
	rule := modelRule{number: number, path: somePath(source, 3)}
	for range source.Intn(api.MaxMatches+1) / 2 {
		rule.matches = append(rule.matches, modelMatch{some(source, modelNames[:3]), some(source, modelWords), source.Intn(2) == 0})
	}
	for i := range source.Intn(api.MaxTargets) + 1 {
		rule.targets = append(rule.targets, modelTarget{string(rune('u' + i)), []int{0, 1, 2, 3, 1000}[source.Intn(5)]})
	}
	rule.targets[source.Intn(len(rule.targets))].weight = source.Intn(4) + 1
	if source.Intn(2) == 0 {
		rule.replace = somePath(source, 3)
	}
	edits := source.Perm(len(modelNames))
	for _, i := range edits[:source.Intn(api.MaxEdits+1)] {
		rule.sets = append(rule.sets, modelSet{modelNames[i], some(source, modelWords)})
	}
	for _, i := range edits[3 : 3+source.Intn(api.MaxEdits+1)] {
		rule.drops = append(rule.drops, modelNames[i])
	}
	return rule
}

func some(source *rand.Rand, all []string) string { return all[source.Intn(len(all))] }

func somePath(source *rand.Rand, most int) string {
	path := "/"
	for range source.Intn(most + 1) {
		path += some(source, []string{"a", "b", "/"})
	}
	return path
}

// someRequest is mostly one that goes somewhere.
func someRequest(source *rand.Rand) string {
	host := some(source, []string{"a", "B", "b", "a.b", "A.b:80", "c.a.b", "d.c.a.b", "x.a", "x.b", "x"})
	lines := []string{"host:" + host}
	for range source.Intn(6) {
		lines = append(lines, some(source, modelNames)+some(source, []string{":", ": ", ":  "})+some(source, modelWords))
	}
	body := strings.Repeat(some(source, []string{"x", "\n", "\r\n"}), source.Intn(3)*source.Intn(4))
	if body != "" || source.Intn(3) == 0 {
		lines = append(lines, fmt.Sprintf("Content-Length: %03d", len(body)))
	}
	source.Shuffle(len(lines), func(i, k int) { lines[i], lines[k] = lines[k], lines[i] })
	target := somePath(source, 5) + some(source, []string{"", "", "?", "?/a", "#"})
	return crlf(append([]string{some(source, []string{"GET", "POST"}) + " " + target + " HTTP/1.1"}, lines...)...) + "\r\n" + body
}
