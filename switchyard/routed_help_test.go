package switchyard_test

import (
	"slices"
	"strings"
	"testing"

	"switchyard/api"
	"switchyard/switchyard"
)

// What the tests of yards with a policy have in common.

// yardOf makes a yard with one connection and this policy.
func yardOf(t *testing.T, text string) *switchyard.Yard {
	t.Helper()
	y := yardWith(t, 1)
	pushes(t, y, text)
	return y
}

func pushes(t *testing.T, y *switchyard.Yard, text string) {
	t.Helper()
	if err := y.Push(packedOf(t, text)); err != api.OK {
		t.Fatalf("Push of %q = %d, want OK", text, err)
	}
}

// doesNotPush hands bytes in that are no packed policy.
func doesNotPush(t *testing.T, y *switchyard.Yard, blob []byte) {
	t.Helper()
	if err := y.Push(blob); err != api.ErrBlob {
		t.Fatalf("Push(%q) = %d, want ErrBlob", blob, err)
	}
}

func draws(y *switchyard.Yard, numbers ...uint64) {
	for _, n := range numbers {
		y.Draw(n)
	}
}

// onward is what goes to an upstream.
func onward(conn int, to, data string) api.Event {
	return api.Event{Conn: conn, To: to, Data: data}
}

// becomes holds what comes of bytes on connection 1: where they go, and as what.
func becomes(t *testing.T, y *switchyard.Yard, in, to, out string) {
	t.Helper()
	feeds(t, y, 1, in)
	if got := y.Events(); !slices.Equal(got, []api.Event{onward(1, to, out)}) {
		t.Errorf("of %q: Events() = %v, want to %q: %q", in, got, to, out)
	}
}

// goesTo holds that a request goes there as it is.
func goesTo(t *testing.T, y *switchyard.Yard, in, to string) {
	t.Helper()
	becomes(t, y, in, to, in)
}

func goesNowhere(t *testing.T, y *switchyard.Yard, in string) {
	t.Helper()
	becomes(t, y, in, "", api.NoRoute)
}

// get is a request as it is sent, if nothing of it is changed.
func get(target, host string, headers ...string) string {
	return crlf(append([]string{"GET " + target + " HTTP/1.1", "host: " + host}, headers...)...) + "\r\n"
}

// put has a body too, or only the beginning of it.
func put(target, body, length string) string {
	return strings.Replace(get(target, "h", "content-length: "+length), "GET", "PUT", 1) + body
}

// hostTo: all requests of a host go to one upstream.
func hostTo(host, upstream string) string {
	return `host "` + host + `" { rule 1 { path "/"; to "` + upstream + `" 1; } } `
}

// allTo: all requests go there.
func allTo(upstream string) string { return hostTo("*", upstream) }

// ofAll lays rules into a host that takes all requests.
func ofAll(rules ...string) string { return `host "*" { ` + strings.Join(rules, " ") + ` }` }

// ruleTo makes a rule with one target.
func ruleTo(number, path, matches, upstream string) string {
	return `rule ` + number + ` { path "` + path + `"; ` + matches + ` to "` + upstream + `" 1; }`
}

// changing is a rule for paths, with what stands behind its one target u.
func changing(path, edits string) string {
	return ofAll(`rule 1 { path "` + path + `"; to "u" 1; ` + edits + ` }`)
}
