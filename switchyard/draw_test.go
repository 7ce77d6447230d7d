package switchyard_test

import (
	"strconv"
	"strings"
	"testing"

	"switchyard/api"
	"switchyard/switchyard"
)

// P9: numbers that are drawn, and what P13 says of them.

const most = 18446744073709551615

// shared is a policy with one rule: all requests, to these targets.
func shared(targets string) string { return ofAll(`rule 1 { path "/"; to ` + targets + `; }`) }

// goInTurn holds which upstreams requests go to, one behind the other.
func goInTurn(t *testing.T, y *switchyard.Yard, upstreams ...string) {
	t.Helper()
	for _, to := range upstreams {
		goesTo(t, y, simple, to)
	}
}

func TestTheExampleWithNumbers(t *testing.T) {
	y := yardOf(t, ofAll(`rule 1 { path "/x"; to "u" 1, "v" 2; replace "/"; }`))
	draws(y, 4, 0)
	becomes(t, y, get("/xy", "h"), "v", get("/y", "h"))
	becomes(t, y, get("/xy", "h"), "u", get("/y", "h"))
}

func TestNoneWaitingIsNought(t *testing.T) {
	y := yardOf(t, shared(`"u" 1, "v" 1000`))
	goInTurn(t, y, "u", "u")
	draws(y, 1)
	goInTurn(t, y, "v", "u", "u")
	draws(y, 0, 1)
	goInTurn(t, y, "u", "v", "u")
}

func TestNumbersAreDrawnInTheirOrder(t *testing.T) {
	y := yardOf(t, shared(`"a" 1, "b" 1, "c" 1, "d" 1`))
	draws(y, 3, 1)
	goInTurn(t, y, "d")
	draws(y, 2, 0, 3)
	goInTurn(t, y, "b", "c")
	draws(y, 1)
	goInTurn(t, y, "a", "d", "b", "a")
}

// Numbers may be laid ahead of all else, and far more than are ever drawn.
func TestManyNumbers(t *testing.T) {
	y := switchyard.New()
	for n := range uint64(10000) {
		y.Draw(n)
	}
	opens(t, y, 1)
	pushes(t, y, shared(`"a" 1, "b" 1, "c" 1, "d" 1`))
	for n := range 12000 {
		to := "a"
		if n < 10000 {
			to = string("abcd"[n%4])
		}
		goesTo(t, y, simple, to)
	}
}

func TestGreatNumbers(t *testing.T) {
	for _, c := range []struct {
		targets string
		slots   []string
	}{
		{`"u" 1, "v" 1`, []string{"u", "v"}},
		{`"u" 1, "v" 2`, []string{"u", "v", "v"}},
		{`"u" 2, "v" 1`, []string{"u", "u", "v"}},
		{`"u" 1, "v" 2, "w" 4`, []string{"u", "v", "v", "w", "w", "w", "w"}},
		{`"u" 3, "n" 0, "u" 1, "v" 1`, []string{"u", "u", "u", "u", "v"}},
	} {
		y := yardOf(t, shared(c.targets))
		for _, n := range []uint64{0, 1, 2, 3, 4, 5, 6, 7, 255, 256, 65535, 65536, 1<<31 - 1, 1 << 31, 1<<32 - 1, 1 << 32, 1<<32 + 1, 1<<53 + 1, 1<<63 - 1, 1 << 63, 1<<63 + 1, most - 2, most - 1, most} {
			draws(y, n)
			goInTurn(t, y, c.slots[n%uint64(len(c.slots))])
		}
	}
}

func TestWeightsAtTheirBounds(t *testing.T) {
	y := yardOf(t, shared(`"a" 1000, "b" 1000, "c" 1000, "d" 1000`))
	for n, to := range map[uint64]string{0: "a", 999: "a", 1000: "b", 1999: "b", 2000: "c", 2999: "c", 3000: "d", 3999: "d", 4000: "a", 7999: "d", most: "d", most - 615: "d", most - 616: "c"} {
		draws(y, n)
		goInTurn(t, y, to)
	}
	y = yardOf(t, shared(`"a" 1, "b" 1000, "c" 1`))
	for n, to := range map[uint64]string{0: "a", 1: "b", 1000: "b", 1001: "c", 1002: "a"} {
		draws(y, n)
		goInTurn(t, y, to)
	}
	y = yardOf(t, shared(`"a" 0, "b" 1000, "c" 0, "d" 1`))
	for n, to := range map[uint64]string{0: "b", 999: "b", 1000: "d", 1001: "b"} {
		draws(y, n)
		goInTurn(t, y, to)
	}
}

// One target in the plain form: those of the weight 0 do not count.
func TestOneTargetDrawsNothing(t *testing.T) {
	for _, targets := range []string{`"u" 1`, `"u" 1000`, `"n" 0, "u" 1`, `"u" 7, "n" 0`, `"n" 0, "u" 2, "m" 0, "l" 0`} {
		y := yardOf(t, shared(targets))
		draws(y, 1, 0)
		goInTurn(t, y, "u", "u", "u")
		pushes(t, y, shared(`"a" 1, "b" 1`))
		goInTurn(t, y, "b", "a", "a")
	}
}

// Two targets draw, also if both are the same upstream.
func TestTheSameUpstreamTwiceDraws(t *testing.T) {
	y := yardOf(t, shared(`"u" 1, "u" 1`))
	draws(y, 0, 1, 1)
	goInTurn(t, y, "u", "u")
	pushes(t, y, shared(`"a" 1, "b" 1`))
	goInTurn(t, y, "b", "a")
}

// Requests that go nowhere, or are refused, draw nothing.
func TestNothingIsDrawnForWhatGoesNowhere(t *testing.T) {
	y := yardWith(t, 5)
	draws(y, 1, 0)
	becomes(t, y, simple, "", api.NoPolicy)
	pushes(t, y, `host "h" { rule 1 { path "/x"; header "k"; to "a" 1, "b" 1; } }`)
	goesNowhere(t, y, get("/x", "g", "k: 1"))
	goesNowhere(t, y, get("/y", "h", "k: 1"))
	goesNowhere(t, y, get("/x", "h"))
	for i, refused := range []string{
		crlf("GET /x HTTP/1.1", "k: 1", ""), get("/x", "h", "k: 1", "transfer-encoding: x"), get("/x", "h", "k: 1", "content-length: 301"), get("/x", "h", "k: "+strings.Repeat("x", 600)),
	} {
		feeds(t, y, i+2, refused)
	}
	if got := len(y.Events()); got != 4 {
		t.Fatalf("%d requests refused", got)
	}
	goesTo(t, y, get("/x", "h", "k: 1"), "b")
	goesTo(t, y, get("/x", "h", "k: 1"), "a")
}

// A number is drawn when the head is at its end, not when the request is sent.
func TestNumbersAreDrawnAtTheEndOfTheHead(t *testing.T) {
	y := yardWith(t, 3)
	pushes(t, y, shared(`"a" 1, "b" 1, "c" 1, "d" 1`))
	head := put("/", "", "1")
	draws(y, 1, 2)
	feeds(t, y, 1, head[:len(head)-1])
	feeds(t, y, 2, head)
	feeds(t, y, 1, "\n")
	feeds(t, y, 3, head)
	draws(y, 3)
	feeds(t, y, 3, "z")
	feeds(t, y, 1, "x")
	feeds(t, y, 2, "y")
	sends(t, y, onward(3, "a", head+"z"), onward(1, "c", head+"x"), onward(2, "b", head+"y"))
	goInTurn(t, y, "d", "a")
}

// What was drawn is gone, also if its request never goes out.
func TestANumberIsDrawnOnce(t *testing.T) {
	y := yardWith(t, 2)
	pushes(t, y, shared(`"a" 1, "b" 1, "c" 1`))
	draws(y, 1, 2)
	feeds(t, y, 2, put("/", "", "1"))
	closes(t, y, 2)
	goInTurn(t, y, "c", "a")
}

// Numbers stay with their yard, whatever policy it has.
func TestNumbersStayWithTheirYard(t *testing.T) {
	y, other := yardOf(t, shared(`"a" 1, "b" 1`)), yardOf(t, shared(`"a" 1, "b" 1`))
	draws(y, 1, 1)
	goInTurn(t, other, "a")
	draws(other, 0, 1)
	goInTurn(t, y, "b")
	pushes(t, y, shared(`"c" 1, "d" 1`))
	goInTurn(t, y, "d", "c")
	goInTurn(t, other, "a", "b", "a")
}

// P13: of as many numbers one behind the other as the weights sum up to, each target has its share.
func TestShares(t *testing.T) {
	for _, weights := range [][]int{{1, 1}, {1, 2}, {5, 3}, {1, 1, 1}, {3, 1, 2}, {1, 2, 3, 4}, {7, 1, 1, 7}, {1, 1000}, {1000, 1}, {999, 1, 1000, 2}} {
		sum := 0
		var targets []string
		for i, w := range weights {
			sum += w
			targets = append(targets, `"t`+strconv.Itoa(i)+`" `+strconv.Itoa(w))
		}
		y := yardOf(t, shared(strings.Join(targets, ", ")))
		for _, from := range []uint64{0, 1, 17, 1<<32 - 5, 1<<63 - 3, most - uint64(sum) + 1, most - uint64(sum)} {
			got := make([]int, len(weights))
			for i := range sum {
				draws(y, from+uint64(i))
				feeds(t, y, 1, simple)
			}
			for _, event := range y.Events() {
				i, _ := strconv.Atoi(strings.TrimPrefix(event.To, "t"))
				got[i]++
			}
			for i, w := range weights {
				if got[i] != w {
					t.Errorf("weights %v, numbers from %d on: %v", weights, from, got)
				}
			}
		}
	}
}
