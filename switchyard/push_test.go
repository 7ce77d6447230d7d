package switchyard_test

import (
	"bytes"
	"strings"
	"testing"

	"switchyard/api"
)

// P8: which policy a yard has, and from when on it counts.

func TestTheExampleOfTheDocument(t *testing.T) {
	y := yardOf(t, `host "A.b"{rule 7{path"/";to"u"1,"v"0;}}`)
	becomes(t, y, crlf("GET /x?q HTTP/1.1", "Host: a.b:80", ""), "u", crlf("GET /x?q HTTP/1.1", "host: a.b:80", ""))
	goesNowhere(t, y, crlf("GET /x?q HTTP/1.1", "Host: b", ""))
	becomes(t, y, crlf("GET /x?q HTTP/1.1", ""), "", api.Bad)
	isNone(t, y, 1)
	opens(t, y, 2)
}

func TestAYardWithoutAPolicy(t *testing.T) {
	y := yardWith(t, 1)
	draws(y, 1, 2, 3)
	becomes(t, y, simple, "", api.NoPolicy)
	pushes(t, y, ofAll(`rule 1 { path "/"; to "u" 1, "v" 1, "w" 1, "x" 1; }`))
	goesTo(t, y, simple, "v")
}

// A policy of nothing is a policy.
func TestPushOfPoliciesThatTakeNothing(t *testing.T) {
	y := yardWith(t, 1)
	becomes(t, y, simple, "", api.NoPolicy)
	pushes(t, y, "")
	goesNowhere(t, y, simple)
	pushes(t, y, `host "a" { }`)
	goesNowhere(t, y, simple)
	pushes(t, y, `host "*" { }`)
	goesNowhere(t, y, simple)
	pushes(t, y, allTo("u"))
	goesTo(t, y, simple, "u")
	pushes(t, y, "")
	goesNowhere(t, y, simple)
}

// Nothing of the policy ahead is left.
func TestPushTakesThePlaceOfThePolicyAhead(t *testing.T) {
	y := yardOf(t, hostTo("a", "one")+hostTo("b", "two"))
	goesTo(t, y, get("/", "a"), "one")
	pushes(t, y, hostTo("b", "three")+hostTo("*.a", "four"))
	goesNowhere(t, y, get("/", "a"))
	goesTo(t, y, get("/", "b"), "three")
	goesTo(t, y, get("/", "a.a"), "four")
	pushes(t, y, hostTo("a", "five"))
	goesTo(t, y, get("/", "a"), "five")
	goesNowhere(t, y, get("/", "b"))
	goesNowhere(t, y, get("/", "a.a"))
}

// notPacked: bytes that are off a packed policy by a byte, cut short, longer, or something else.
func notPacked(t *testing.T, policy string) [][]byte {
	blob := packedOf(t, policy)
	blobs := [][]byte{nil, {}, []byte("SY1"), []byte("SY1\x00"), []byte(policy), sealed(""), append(bytes.Clone(blob), blob...)}
	for i := range blob {
		blobs = append(blobs, blob[:i], append(bytes.Clone(blob[:i]), blob[i+1:]...))
		for _, x := range []byte{1, 32, 128, 255} {
			other := bytes.Clone(blob)
			other[i] ^= x
			blobs = append(blobs, other)
		}
	}
	for i := range 256 {
		blobs = append(blobs, append(bytes.Clone(blob), byte(i)), sealed(string(unsealed(blob)), one(i)))
	}
	return append(blobs,
		blobOfHosts(bare("b"), bare("a")), blobOfHosts(bare("A")), blobOfHosts(bare("a"), bare("a")),
		changed(func(p *parts) { p.targets = none }),
		changed(func(p *parts) { p.targets = all(text("u")+two(0), text("v")+two(0)) }),
		changed(func(p *parts) { p.targets = all(text("u") + two(1001)) }),
		changed(func(p *parts) { p.path = text("x") }))
}

// bare is a host without rules.
func bare(host string) string { return text(host) + none }

func TestPushOfWhatIsNoPackedPolicy(t *testing.T) {
	y := yardWith(t, 1)
	for _, blob := range notPacked(t, allTo("v")) {
		doesNotPush(t, y, blob)
		becomes(t, y, simple, "", api.NoPolicy)
	}
	pushes(t, y, allTo("u"))
	for _, blob := range notPacked(t, allTo("v")) {
		doesNotPush(t, y, blob)
		goesTo(t, y, simple, "u")
	}
}

// Neither what is in the midst, nor what waits to be told or to be drawn, is changed by it.
func TestPushOfWhatIsNoPackedPolicyInTheMidst(t *testing.T) {
	stream := put("/", "xyz", "3")
	wrong := notPacked(t, allTo("v"))[3:9]
	y := yardOf(t, ofAll(`rule 1 { path "/"; to "u" 1, "v" 1; }`))
	draws(y, 1, 0, 1)
	var want []api.Event
	for _, to := range []string{"v", "u", "v", "u"} {
		for i := range stream {
			doesNotPush(t, y, wrong[i%len(wrong)])
			feeds(t, y, 1, stream[i:i+1])
		}
		want = append(want, onward(1, to, stream))
	}
	doesNotPush(t, y, nil)
	sends(t, y, want...)
	opens(t, y, 2)
}

// A policy that comes at any place of three requests: the end of the head is what counts.
func TestPushAtEveryPlace(t *testing.T) {
	requests := []string{get("/a", "h"), put("/b", "GET / HTTP/1.1\r\n\r\n", "18"), get("/c", "h", "x: y")}
	stream := strings.Join(requests, "")
	for _, old := range []string{"", allTo("old")} {
		for place := range len(stream) + 1 {
			y := yardWith(t, 1)
			answer := back(1, api.NoPolicy)
			if old != "" {
				pushes(t, y, old)
			}
			feeds(t, y, 1, stream[:place])
			pushes(t, y, allTo("new"))
			feeds(t, y, 1, stream[place:])
			var want []api.Event
			end := 0
			for _, request := range requests {
				head := end + strings.Index(request, "\r\n\r\n") + 4
				end += len(request)
				switch {
				case head > place:
					answer = onward(1, "new", request)
				case old != "":
					answer = onward(1, "old", request)
				}
				want = append(want, answer)
			}
			sends(t, y, want...)
		}
	}
}

// A policy that takes nothing, in the midst of a body: what was decided stays.
func TestPushBehindADecision(t *testing.T) {
	stream := put("/x", "abc", "3")
	body := len(stream) - 3
	y := yardOf(t, changing("/x", `replace "/y"; set "a" = "b";`))
	feeds(t, y, 1, stream[:body])
	pushes(t, y, "")
	becomes(t, y, stream[body:], "u", crlf("PUT /y HTTP/1.1", "host: h", "content-length: 3", "a: b", "")+"abc")
	feeds(t, y, 1, stream[:body])
	pushes(t, y, allTo("u"))
	becomes(t, y, stream[body:], "", api.NoRoute)
	y = yardWith(t, 1)
	feeds(t, y, 1, stream[:body])
	pushes(t, y, allTo("u"))
	becomes(t, y, stream[body:], "", api.NoPolicy)
	goesTo(t, y, stream, "u")
}

// The policy is that of the yard, not of the connections that there were.
func TestPushCountsForAllConnections(t *testing.T) {
	y := yardWith(t, 2)
	feeds(t, y, 1, simple[:10])
	feeds(t, y, 2, put("/", "", "1"))
	pushes(t, y, allTo("u"))
	opens(t, y, 3)
	feeds(t, y, 1, simple[10:])
	feeds(t, y, 2, "x"+simple)
	feeds(t, y, 3, simple)
	sends(t, y, onward(1, "u", simple), back(2, api.NoPolicy), onward(2, "u", simple), onward(3, "u", simple))
}

// A policy of which no text is short enough is pushed all the same.
func TestPushOfTheLongestPolicy(t *testing.T) {
	blob, _ := fullest(t)
	y := yardWith(t, 1)
	if err := y.Push(blob); err != api.OK {
		t.Fatalf("Push = %d", err)
	}
	zs := strings.Repeat("z", api.MaxString-2)
	host := "dz" + zs
	path := "/" + strings.Repeat("p", api.MaxString-1)
	in := get(path+"/q", host, "mc"+zs+": Vc"+zs, "mb"+zs+": Vb"+zs, "db"+zs+": 1", "ma"+zs+": Va"+zs, "sc"+zs+": 2")
	out := get("/r"+zs+"/q", host, "mc"+zs+": Vc"+zs, "mb"+zs+": Vb"+zs, "ma"+zs+": Va"+zs, "sc"+zs+": Wc"+zs, "sa"+zs+": Wa"+zs, "sb"+zs+": Wb"+zs)
	draws(y, 999, 1000, 3999, 4000)
	for _, to := range []string{"u:" + zs, "ua" + zs, "uc" + zs, "u:" + zs, "u:" + zs} {
		becomes(t, y, in, to, out)
	}
	goesNowhere(t, y, get(path[:len(path)-1], host, "ma"+zs+": Va"+zs, "mb"+zs+": Vb"+zs, "mc"+zs+": Vc"+zs))
	goesNowhere(t, y, get(path, host, "ma"+zs+": Va"+zs, "mb"+zs+": Vb"+zs))
}
