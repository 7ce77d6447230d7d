package switchyard_test

import (
	"strings"
	"testing"

	"switchyard/api"
	"switchyard/switchyard"
)

// plainIs also holds that the plain form is its own plain form, and that it comes back from what is packed.
func plainIs(t *testing.T, text, want string) {
	t.Helper()
	for _, s := range []string{text, want} {
		if got, err, at := switchyard.Plain(s); got != want || err != api.OK || at != 0 {
			t.Errorf("Plain(%q) = %q, %d, %d, want %q", s, got, err, at, want)
		}
		unpacks(t, packedOf(t, s), want)
	}
}

func goesWell(t *testing.T, text string) {
	t.Helper()
	if _, err, at := switchyard.Plain(text); err != api.OK || at != 0 {
		t.Errorf("Plain(%q): error %d at %d, want none", text, err, at)
	}
}

// faultIs is for Plain and Pack alike.
func faultIs(t *testing.T, text string, want api.Errno, place int) {
	t.Helper()
	if got, err, at := switchyard.Plain(text); got != "" || err != want || at != place {
		t.Errorf("Plain(%q) = %q, error %d at %d, want error %d at %d", text, got, err, at, want, place)
	}
	if got, err, at := switchyard.Pack(text); len(got) != 0 || err != want || at != place {
		t.Errorf("Pack(%q) = %q, error %d at %d, want error %d at %d", text, got, err, at, want, place)
	}
}

// faultAtMark takes the first @ out of the text: there the fault must stand.
func faultAtMark(t *testing.T, marked string, want api.Errno) {
	t.Helper()
	before, behind, found := strings.Cut(marked, "@")
	if !found {
		t.Fatalf("no mark in %q", marked)
	}
	faultIs(t, before+behind, want, len(before))
}

// lines puts a newline behind each.
func lines(all ...string) string {
	return strings.Join(all, "\n") + "\n"
}

// inHost lays rules into a host, inRule what follows a path into a rule.
func inHost(rules string) string { return `host "h" { ` + rules + ` }` }

func inRule(rest string) string { return inHost(`rule 1 { path "/"; ` + rest + ` }`) }

func behindTo(rest string) string { return inRule(`to "u" 1; ` + rest) }

// times puts n of something behind one another, each with another small letter for the ?.
func times(n int, s string) string {
	var out strings.Builder
	for i := range n {
		out.WriteString(strings.ReplaceAll(s, "?", string(rune('a'+i))))
	}
	return out.String()
}

// rules makes n with the numbers from 1 on.
func rules(n int) string {
	var out strings.Builder
	for i := range n {
		out.WriteString("rule " + string(rune('1'+i)) + ` { path "/"; to "u" 1; } `)
	}
	return out.String()
}
