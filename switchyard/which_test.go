package switchyard_test

import (
	"strings"
	"testing"

	"switchyard/api"
)

// P12: which host counts, and which of its rules.

func TestTheSameHost(t *testing.T) {
	y := yardOf(t, hostTo("A.b", "ab")+hostTo("c", "c")+hostTo("0-9.-", "odd"))
	for host, to := range map[string]string{"a.b": "ab", "a.b:80": "ab", "a.b:0": "ab", "a.b:00080": "ab", "c": "c", "c:99999": "c", "0-9.-": "odd", "0-9.-:1": "odd"} {
		goesTo(t, y, get("/", host), to)
	}
	for _, host := range []string{"a", "b", "ab", "a.b.c", "c.a.b", "x.c", "c.x", "cc", "a-b", "80"} {
		goesNowhere(t, y, get("/", host))
		goesNowhere(t, y, get("/", host+":80"))
	}
}

func TestLargeLettersOfHosts(t *testing.T) {
	for _, of := range []string{"Ab.Cd", "ab.cd", "AB.CD", "*.Cd", "*.cd"} {
		y := yardOf(t, hostTo(of, "u"))
		for _, host := range []string{"ab.cd", "AB.CD", "aB.cD", "Ab.Cd:80"} {
			becomes(t, y, get("/", host), "u", get("/", strings.ToLower(host)))
		}
	}
}

func TestHostsWithSomethingAhead(t *testing.T) {
	y := yardOf(t, hostTo("*.b", "b")+hostTo("*.c.b", "cb")+hostTo("*.d.c.b", "dcb"))
	for host, to := range map[string]string{
		"a.b": "b", "c.b": "b", "x.y.b": "b", "xc.b": "b", "c.x.b": "b", "-.b:1": "b",
		"a.c.b": "cb", "d.c.b": "cb", "c.c.b": "cb", "xd.c.b": "cb",
		"a.d.c.b": "dcb", "x.a.d.c.b:80": "dcb", "b.b.b.b.b.d.c.b": "dcb",
	} {
		goesTo(t, y, get("/", host), to)
	}
	for _, host := range []string{"b", "c", "xb", "b.x", "b.c", "a.b.c", "bb", "a.xb"} {
		goesNowhere(t, y, get("/", host))
	}
}

// The order in which hosts count hangs neither on their order in the text nor on that of their strings.
func TestTheLongestHostCounts(t *testing.T) {
	hosts := []string{hostTo("*.b", "short"), hostTo("*.z.b", "long"), hostTo("y.z.b", "same"), hostTo("*", "all")}
	for i := range hosts {
		y := yardOf(t, strings.Join(append(hosts[i:len(hosts):len(hosts)], hosts[:i]...), ""))
		for host, to := range map[string]string{"y.z.b": "same", "x.z.b": "long", "x.y.z.b": "long", "z.b": "short", "y.b": "short", "b": "all", "z": "all", "y.z": "all", "a.y.z.b.c": "all"} {
			goesTo(t, y, get("/", host), to)
		}
	}
	y := yardOf(t, hostTo("*.0", "short")+hostTo("*.z.0", "long")+hostTo("*.a.z.0", "longest"))
	for host, to := range map[string]string{"b.0": "short", "z.0": "short", "b.z.0": "long", "a.z.0": "long", "b.a.z.0": "longest", "c.b.z.0": "long"} {
		goesTo(t, y, get("/", host), to)
	}
}

func TestTheHostForAll(t *testing.T) {
	y := yardOf(t, hostTo("*", "all")+hostTo("a", "a"))
	for _, host := range []string{"b", "a.a", "x.y.z", "0", "-", "a-a:1", strings.Repeat("h", 500), strings.Repeat("h.", 250) + "h"} {
		goesTo(t, y, get("/", host), "all")
	}
	goesTo(t, y, get("/", "a"), "a")
}

// A host counts even if none of its rules does: no other one is asked then.
func TestAHostWithoutAFittingRule(t *testing.T) {
	y := yardOf(t, `host "a.b" { } host "*.c" { `+ruleTo("1", "/x", "", "x")+` } `+hostTo("*.b", "wild")+hostTo("*", "all"))
	goesNowhere(t, y, get("/", "a.b"))
	goesNowhere(t, y, get("/", "a.c"))
	goesNowhere(t, y, get("/y", "a.c"))
	goesTo(t, y, get("/x", "a.c"), "x")
	goesTo(t, y, get("/", "b.b"), "wild")
	goesTo(t, y, get("/", "c"), "all")
}

// Each host has its own rules, of the same paths and numbers too.
func TestEachHostHasItsOwnRules(t *testing.T) {
	y := yardOf(t, `host "a" { `+ruleTo("1", "/x", "", "ax")+ruleTo("2", "/", "", "a")+` } host "b" { `+ruleTo("1", "/", "", "b")+ruleTo("2", "/x", "", "bx")+` }`)
	goesTo(t, y, get("/x", "a"), "ax")
	goesTo(t, y, get("/", "a"), "a")
	goesTo(t, y, get("/x", "b"), "b")
}

func TestPaths(t *testing.T) {
	y := yardOf(t, ofAll(ruleTo("30", "/a", "", "a"), ruleTo("20", "/a/b", "", "ab"), ruleTo("10", "/a/bc", "", "abc"), ruleTo("40", "/%7E!~'", "", "odd"), ruleTo("50", "//", "", "twice")))
	for target, to := range map[string]string{
		"/a": "a", "/aa": "a", "/a/": "a", "/a/c": "a", "/a?/b": "a", "/a?": "a", "/a#/b": "a", "/a/?b": "a", "/a??/a/b": "a",
		"/a/b": "ab", "/a/bb": "ab", "/a/b/c": "ab", "/a/b?c": "ab", "/a/b?": "ab",
		"/a/bc": "abc", "/a/bcd?e": "abc", "/%7E!~'": "odd", "/%7E!~'/x": "odd", "//": "twice", "//a": "twice", "///": "twice",
	} {
		goesTo(t, y, get(target, "h"), to)
	}
	for _, target := range []string{"/", "/b", "/A", "/?/a", "/b/a", "/?", "/%7e!~'", "/#/a", "/-a", "/\"a"} {
		goesNowhere(t, y, get(target, "h"))
	}
}

// The lowest number counts, however long the paths are, and in whatever order the rules are written.
func TestTheLowestNumberCounts(t *testing.T) {
	rules := []string{ruleTo("3", "/a/b/c", "", "three"), ruleTo("1", "/a/b", "", "one"), ruleTo("2", "/a", "", "two"), ruleTo("0", "/a/b/c/d", "", "nought"), ruleTo("65535", "/", "", "last"), ruleTo("256", "/a/x", "", "far")}
	for i := range rules {
		y := yardOf(t, ofAll(append(rules[i:len(rules):len(rules)], rules[:i]...)...))
		for target, to := range map[string]string{"/": "last", "/b": "last", "/a": "two", "/a/x": "two", "/a/b": "one", "/a/b/c": "one", "/a/b/c/d": "nought", "/a/b/c/dd": "nought", "/a/b/d": "one"} {
			goesTo(t, y, get(target, "h"), to)
		}
	}
}

func TestRulesOfOnePath(t *testing.T) {
	y := yardOf(t, ofAll(ruleTo("9", "/", "", "rest"), ruleTo("8", "/", `header "a";`, "a"), ruleTo("7", "/", `header "a" = "1";`, "one"), ruleTo("6", "/", `header "b"; header "a" = "2";`, "two"), ruleTo("5", "/", `header "b" = "3"; header "a"; header "c" = "";`, "three")))
	for _, c := range []struct {
		to      string
		headers []string
	}{
		{"rest", nil}, {"rest", []string{"b: 3", "c: "}}, {"a", []string{"a: "}}, {"a", []string{"a: 3"}}, {"one", []string{"a: 1"}}, {"one", []string{"b: 1", "a: 1"}},
		{"two", []string{"b: ", "a: 2"}}, {"two", []string{"a: 2", "b: 3", "c: x"}}, {"a", []string{"a: 2"}},
		{"three", []string{"a: 1", "b: 3", "c: "}}, {"three", []string{"c: ", "b: 3", "a: 2"}}, {"one", []string{"a: 1", "b: 4", "c: "}},
	} {
		goesTo(t, y, get("/", "h", c.headers...), c.to)
	}
}

func TestHeadersThatAreAskedFor(t *testing.T) {
	y := yardOf(t, ofAll(ruleTo("1", "/", `header "X-A" = "V w";`, "v"), ruleTo("2", "/", `header "x-b";`, "b"), ruleTo("3", "/", `header "x-c" = "";`, "c")))
	for _, c := range []struct{ to, header, sent string }{
		{"v", "x-a: V w", "x-a: V w"}, {"v", "X-A:V w", "x-a: V w"}, {"v", "x-a:   V w  ", "x-a: V w"},
		{"b", "x-b:", "x-b: "}, {"b", "X-B: anything", "x-b: anything"}, {"c", "x-c:", "x-c: "}, {"c", "X-C:    ", "x-c: "},
	} {
		becomes(t, y, get("/", "h", c.header), c.to, get("/", "h", c.sent))
	}
	for _, header := range []string{"x-a: v w", "x-a: V  w", "x-a: V", "x-a: V w x", "x-a: xV w", "x-a:", "x-a: \"V w\"", "a: V w", "x-a-: V w", "x: b", "x-bb: 1", "b: x-b", "x-c: 1", "x-c: \"\"", "content-length: 0"} {
		goesNowhere(t, y, get("/", "h", header))
	}
}

// Of several headers of one name any one will do; and a rule may ask for several values of one name.
func TestSeveralHeadersOfOneName(t *testing.T) {
	y := yardOf(t, ofAll(ruleTo("1", "/", `header "a" = "1"; header "A" = "2";`, "both"), ruleTo("2", "/", `header "a" = "2"; header "a";`, "two")))
	for _, headers := range [][]string{{"a: 1", "a: 2"}, {"a: 2", "a: 1"}, {"a: 3", "a: 2", "b: 1", "a: 1"}, {"a: 1", "a: 1", "a: 2"}} {
		goesTo(t, y, get("/", "h", headers...), "both")
	}
	for _, headers := range [][]string{{"a: 2"}, {"a: 3", "a: 2"}, {"a: 2", "a: 3"}, {"a: 2", "b: 1"}} {
		goesTo(t, y, get("/", "h", headers...), "two")
	}
	for _, headers := range [][]string{{"a: 1"}, {"a: 1", "b: 2"}, {"a: 1, 2"}, {"a: 12"}, {"a: 1", "a: 1"}, {"b: 2"}, nil} {
		goesNowhere(t, y, get("/", "h", headers...))
	}
}

func TestTheMethodDoesNotCount(t *testing.T) {
	y := yardOf(t, allTo("u"))
	for _, method := range []string{"A", "GET", "POST", "CONNECT", "ABCDEFGH"} {
		goesTo(t, y, strings.Replace(get("/", "h"), "GET", method, 1), "u")
	}
}

// NoRoute comes when the body is complete, not ahead of it, and does not end the connection.
func TestNoRouteWaitsForTheBody(t *testing.T) {
	for _, policy := range []string{"", hostTo("x", "u"), ofAll(ruleTo("1", "/x", "", "u")), ofAll(ruleTo("1", "/", `header "k";`, "u"))} {
		y := yardOf(t, policy)
		for _, body := range []string{"", "x", "\r\n\r\n", strings.Repeat("\n", 300)} {
			stream := asked("content-length: "+itoa(len(body))) + body
			feeds(t, y, 1, stream[:len(stream)-1])
			sends(t, y)
			feeds(t, y, 1, stream[len(stream)-1:])
			sends(t, y, back(1, api.NoRoute))
		}
		closes(t, y, 1)
	}
}
