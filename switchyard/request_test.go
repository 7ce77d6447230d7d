package switchyard_test

import (
	"strconv"
	"strings"
	"testing"

	"switchyard/api"
)

// P11: what is a request. (isTaken cuts each at every place, and lays others behind it.)

func TestTheSimpleRequest(t *testing.T) {
	isTaken(t, simple)
	isTaken(t, crlf("GET /x?q HTTP/1.1", "Host: a.b:80", ""))
}

func TestFirstLines(t *testing.T) {
	for _, line := range []string{
		"A / HTTP/1.1", "Z / HTTP/1.1", "AZ / HTTP/1.1", "ABCDEFGH / HTTP/1.1", "HTTP / HTTP/1.1",
		"GET // HTTP/1.1", "GET /a/b?c#d HTTP/1.1", "GET /HTTP/1.1 HTTP/1.1", "GET /\" HTTP/1.1", "GET /! HTTP/1.1", "GET /~ HTTP/1.1", "GET /* HTTP/1.1",
		"GET /" + printable(33) + " HTTP/1.1",
		"GET /" + strings.Repeat("x", 500) + " HTTP/1.1",
	} {
		isTaken(t, crlf(line, "host: a", ""))
	}
}

// printable is the bytes from one on to 126.
func printable(from byte) string {
	var all []byte
	for c := from; c <= 126; c++ {
		all = append(all, c)
	}
	return string(all)
}

func TestHeaderNames(t *testing.T) {
	for _, name := range []string{"a", "z", "A", "Z", "0", "9", "-", "a-b", "-a-", "X-0-Z", "hosts", "hos", "content-lengths", "content-length-", "transfer-encodings", "x-host", strings.Repeat("n", 250)} {
		isTaken(t, asked(name+": 1"))
		isTaken(t, asked(name+": 1", name+": 1"))
	}
}

func TestHeaderValues(t *testing.T) {
	for _, value := range []string{"", " ", "   ", "x", " x", "x ", "  x  ", "x y", ":", "::", " : ", "a: b", "!", "~", "\"", ",", "host: b", strings.Repeat("v", 500), printable(32), printable(33)} {
		isTaken(t, asked("a:"+value))
	}
}

func TestHosts(t *testing.T) {
	for _, value := range []string{"a", "A", "0", "-", "a.b", "A.B.C", "a-b.0-9.-", "a:1", "a:0", "a:80", "a:65535", "a:99999", "a:00000", "a.b:80", "1.2.3.4:5", strings.Repeat("h", 300), strings.Repeat("h.", 200) + "h:12345"} {
		for _, name := range []string{"host:", "Host: ", "HOST:  ", "hOsT: "} {
			isTaken(t, begun(name+value, ""))
			isTaken(t, begun(name+value+"  ", ""))
		}
	}
	isTaken(t, begun("a: 1", "host: a", "b: 2", ""))
}

func TestBodies(t *testing.T) {
	for _, c := range []struct {
		value string
		size  int
	}{
		{"0", 0}, {"00000", 0}, {"1", 1}, {"01", 1}, {"00001", 1}, {"2", 2}, {"9", 9}, {"10", 10}, {"010", 10}, {"08", 8}, {"299", 299}, {"300", 300}, {"00300", 300}, {"  7  ", 7},
	} {
		for _, fill := range []string{"x", "\n", "\r", "\x00", "\xff", " "} {
			isTaken(t, asked("content-length:"+c.value)+strings.Repeat(fill, c.size))
		}
	}
	isTaken(t, begun("CONTENT-LENGTH: 3", "Host: a", "")+"abc")
}

// What stands in a body is not looked at, whatever it seems to be.
func TestBodiesOfAnything(t *testing.T) {
	for _, body := range []string{simple, "x\n", "\r\n\r\n", "POST", crlf(first, "transfer-encoding: x", ""), printable(0)} {
		isTaken(t, asked("content-length: "+strconv.Itoa(len(body)))+body)
	}
}

func TestRequestsBehindOneAnother(t *testing.T) {
	with := asked("content-length: 3") + "abc"
	isAnswered(t, simple+simple+simple, api.NoPolicy, api.NoPolicy, api.NoPolicy)
	isAnswered(t, with+simple+with+with+simple, api.NoPolicy, api.NoPolicy, api.NoPolicy, api.NoPolicy, api.NoPolicy)
	isAnswered(t, with+simple+with[:len(with)-1], api.NoPolicy, api.NoPolicy)
	isAnswered(t, with+with+"ab\n"+with, api.NoPolicy, api.NoPolicy, api.Bad)
	isAnswered(t, simple+"\r\n"+simple, api.NoPolicy, api.Bad)
}

// What was there in one request counts no more in the next one.
func TestEachRequestBeginsAnew(t *testing.T) {
	full := asked("content-length: 2", "3: ", "4: ", "5: ", "6: ", "7: ", "8: ", "9: ", "10: ", "11: ", "12: ") + "ab"
	isAnswered(t, full+full+full, api.NoPolicy, api.NoPolicy, api.NoPolicy)
	isAnswered(t, full+begun(""), api.NoPolicy, api.Bad)
	isAnswered(t, full+crlf("host: a"), api.NoPolicy, api.Bad)
	isAnswered(t, full+simple+simple, api.NoPolicy, api.NoPolicy, api.NoPolicy)
}

func TestTwelveHeaders(t *testing.T) {
	isTaken(t, asked("a: 1", "a: 2", "a: 3", "a: 4", "a: 5", "a: 6", "a: 7", "a: 8", "a: 9", "a: 10", "a: 11"))
	isTaken(t, begun("a: 1", "a: 2", "a: 3", "a: 4", "a: 5", "a: 6", "a: 7", "a: 8", "a: 9", "a: 10", "content-length: 1", "host: a", "")+"x")
}

func TestHeadsOfMaxHeadBytes(t *testing.T) {
	for _, size := range []int{598, 599, 600} {
		if len(long(size)) != size {
			t.Fatalf("a head of %d bytes", len(long(size)))
		}
		isTaken(t, long(size))
	}
	isTaken(t, crlf("GET /"+strings.Repeat("x", 600-len(simple))+" HTTP/1.1", "host: a", ""))
}

// The body does not count for the head, and neither do other requests.
func TestTheHeadAloneCountsForItsSize(t *testing.T) {
	head := asked("content-length: 300", "b: "+strings.Repeat("x", 600-len(asked("content-length: 300", "b: "))))
	if len(head) != 600 {
		t.Fatalf("a head of %d bytes", len(head))
	}
	isTaken(t, head+strings.Repeat("y", 300))
	isAnswered(t, long(600)+long(600), api.NoPolicy, api.NoPolicy)
	isAnswered(t, long(600)+long(601), api.NoPolicy, api.TooMuch)
}
