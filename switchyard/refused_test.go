package switchyard_test

import (
	"strings"
	"testing"

	"switchyard/api"
)

// P11: what is refused, and by which answer. (isRefused holds that it comes with the last byte, and ends the connection.)

func TestFirstLinesThatAreNone(t *testing.T) {
	for _, line := range []string{
		"", " ", "GET", "GET ", "GET /", "GET / ", "GET HTTP/1.1", "/ HTTP/1.1", " / HTTP/1.1", "HTTP/1.1", "  HTTP/1.1", "  ", "host: a", "a: 1",
		"ABCDEFGHI / HTTP/1.1", "get / HTTP/1.1", "GEt / HTTP/1.1", "G1 / HTTP/1.1", "G-T / HTTP/1.1", "G\x00T / HTTP/1.1", "@ / HTTP/1.1", "[ / HTTP/1.1", "GÉT / HTTP/1.1",
		"GET  HTTP/1.1", "GET x HTTP/1.1", "GET * HTTP/1.1", "GET x/ HTTP/1.1", "GET http://a/ HTTP/1.1", "GET ? HTTP/1.1",
		"GET /\x7f HTTP/1.1", "GET /\x1f HTTP/1.1", "GET /\x00 HTTP/1.1", "GET /\x80 HTTP/1.1", "GET /\xff HTTP/1.1", "GET /é HTTP/1.1", "GET /\t HTTP/1.1", "GET / x HTTP/1.1",
		"GET  / HTTP/1.1", "GET /  HTTP/1.1", " GET / HTTP/1.1", "GET / HTTP/1.1 ", "GET\t/ HTTP/1.1", "GET /\tHTTP/1.1",
		"GET / HTTP/1.0", "GET / HTTP/2.0", "GET / HTTP/1.11", "GET / HTTP/1.", "GET / HTTP/1", "GET / http/1.1", "GET / HTTP/1x1", "GET / HTTP /1.1", "GET / XHTTP/1.1", "GET / /HTTP/1.1", "GET / HTTP/1.1\x00",
	} {
		isRefused(t, crlf(line), api.Bad)
	}
}

func TestLineEnds(t *testing.T) {
	for _, s := range []string{
		"\n", "\r\r\n", "x\n", first + "\n", first + "\r\r\n", first + "\rx\n", first + "\r \n", "\r" + first + "\r\n", "GET\r / HTTP/1.1\r\n", "GET \r/ HTTP/1.1\r\n", "GET /\r HTTP/1.1\r\n", "GET / \rHTTP/1.1\r\n",
	} {
		isRefused(t, s, api.Bad)
	}
	for _, line := range []string{
		"host: a\n", "host: a\r\r\n", "host: a\r \n", "\rhost: a\r\n", "ho\rst: a\r\n", "host\r: a\r\n", "host:\r a\r\n", "host: \ra\r\n", "b: 1\n", "b: \r\r\n", "b:\r\r\n", "b\r\n", "\n", "\r\r\n", "x\n",
	} {
		isRefused(t, crlf(first)+line, api.Bad)
	}
	for _, line := range []string{"\n", "\r\r\n", " \r\n", "\r \r\n", "\x00\r\n"} {
		isRefused(t, crlf(first, "host: a")+line, api.Bad)
	}
}

func TestHeadersThatAreNone(t *testing.T) {
	for _, line := range []string{
		"a", "host", "a a", ":", ": 1", ":a", " ", "  a: 1", " a: 1", "a : 1", "a\t: 1", "\ta: 1", "a b: 1", "a_: 1", "_: 1", "a.b: 1", "a;: 1", "@: 1", "[: 1", "`: 1", "{: 1", "/: 1", "é: 1", "\x00: 1", "a\x00: 1", "a\xff: 1", "a= 1",
	} {
		isRefused(t, begun(line), api.Bad)
		isRefused(t, begun("host: a", line), api.Bad)
	}
	for _, value := range []string{"\t", "a\tb", "\x00", "\x1f", "\x7f", "\x80", "\xff", "é", "a\x0bb", "\x0c"} {
		for _, name := range []string{"a", "host", "content-length", "transfer-encoding"} {
			isRefused(t, begun(name+":"+value), api.Bad)
			isRefused(t, begun(name+": 1"+value), api.Bad)
			isRefused(t, begun(name+": "+value+"1"), api.Bad)
		}
	}
}

func TestTransferEncoding(t *testing.T) {
	for _, line := range []string{"transfer-encoding: chunked", "Transfer-Encoding: chunked", "TRANSFER-ENCODING:", "transfer-encoding: identity", "transfer-encoding: \"", "transfer-encoding:   "} {
		isRefused(t, begun(line), api.NotDone)
		isRefused(t, begun("host: a", "content-length: 3", line), api.NotDone)
	}
}

func TestContentLengthsThatAreNone(t *testing.T) {
	for _, value := range []string{"", " ", "x", "-1", "+1", "1 1", "1,1", "1.0", "0x1", "1x", "x1", "1e2", "1_0", "/", ":", "000000", "000001", "123456", "999999", "1000000000000000000000", "18446744073709551616", "x12345"} {
		isRefused(t, begun("content-length: "+value), api.Bad)
		isRefused(t, begun("host: a", "Content-Length:"+value), api.Bad)
	}
}

func TestContentLengthsAboveMaxBody(t *testing.T) {
	for _, value := range []string{"301", "0301", "00301", "302", "400", "999", "1000", "3000", "65535", "65536", "65837", "99999"} {
		isRefused(t, begun("content-length: "+value), api.TooLarge)
		isRefused(t, begun("host: a", "CONTENT-LENGTH:"+value+" "), api.TooLarge)
	}
}

func TestContentLengthTwice(t *testing.T) {
	for _, again := range []string{"1", "2", "0", "00001", "x", "", "301", "99999", "000001"} {
		isRefused(t, begun("content-length: 1", "Content-Length: "+again), api.Bad)
		isRefused(t, begun("Content-Length: 0", "host: a", "b: 1", "content-length:"+again), api.Bad)
	}
}

func TestHostsThatAreNone(t *testing.T) {
	for _, value := range []string{
		"", " ", ".", "..", "a.", ".a", "a..b", "*", "*.a", "a.*", "a_b", "a b", "a/", "a,b", "a@b", "[a]", "a\"",
		":", ":1", "a:", "a:x", "a:1x", "a:-1", "a:123456", "a:000001", "a:1:1", "a::1", "a: 1", "a :1", "a.:1", "a:1.", "a:1 1",
	} {
		isRefused(t, begun("host: "+value), api.Bad)
		isRefused(t, begun("b: 1", "HOST:"+value), api.Bad)
	}
}

func TestHostTwice(t *testing.T) {
	for _, again := range []string{"a", "A", "b", "", "*"} {
		isRefused(t, begun("host: a", "Host: "+again), api.Bad)
		isRefused(t, begun("HOST: a", "b: 1", "host:"+again), api.Bad)
	}
}

func TestHostMissing(t *testing.T) {
	isRefused(t, begun(""), api.Bad)
	isRefused(t, begun("a: 1", ""), api.Bad)
	isRefused(t, begun("hosts: a", "x-host: a", "content-length: 0", ""), api.Bad)
	isRefused(t, begun("content-length: 5", ""), api.Bad)
	isRefused(t, begun(twelve...)+"\r\n", api.Bad)
}

var twelve = []string{"a: 1", "a: 2", "a: 3", "a: 4", "a: 5", "a: 6", "a: 7", "a: 8", "a: 9", "a: 10", "a: 11", "a: 12"}

// Of several that hold of one header the first named counts.
func TestTheThirteenthHeader(t *testing.T) {
	for _, line := range []string{"a: 13", "host: a", "host: *", "host:", "transfer-encoding: x", "content-length: 1", "content-length: x", "content-length: 301"} {
		isRefused(t, begun(twelve...)+crlf(line), api.TooMuch)
	}
	usual := append([]string{"host: a", "content-length: 1"}, twelve[:10]...)
	for _, line := range []string{"host: a", "content-length: 1", "content-length: 999", "transfer-encoding:"} {
		isRefused(t, begun(usual...)+crlf(line), api.TooMuch)
	}
	for _, line := range []string{"a", "a : 1", ": 1", "host: \x00", "transfer-encoding", "transfer-encoding: \x7f", " "} {
		isRefused(t, begun(usual...)+crlf(line), api.Bad)
	}
	isRefused(t, begun(usual...)+"a: 13\n", api.Bad)
	isRefused(t, begun(twelve[:11]...)+crlf("transfer-encoding: x"), api.NotDone)
	isRefused(t, begun(twelve[:11]...)+crlf("content-length: 301"), api.TooLarge)
	isRefused(t, begun(twelve[:11]...)+crlf("host: *"), api.Bad)
}

// The first header that is refused counts, not what would stand behind it.
func TestTheFirstRefusalCounts(t *testing.T) {
	isAnswered(t, begun("content-length: 301", "transfer-encoding: x", "a", ""), api.TooLarge)
	isAnswered(t, begun("transfer-encoding: x", "content-length: 301", "a", ""), api.NotDone)
	isAnswered(t, begun("host: *", "transfer-encoding: x", "content-length: 301", ""), api.Bad)
	isAnswered(t, crlf("GET", "transfer-encoding: x"), api.Bad)
	isAnswered(t, crlf(first, "transfer-encoding: x")+strings.Repeat("x", 600), api.NotDone)
}

// filled is what comes ahead, and so much of a header's value behind it that there are just MaxHead bytes.
func filled(ahead, last string) string {
	return ahead + strings.Repeat("x", api.MaxHead-len(ahead)-len(last)) + last
}

// The byte by which there are more than MaxHead, whatever it would bring.
func TestHeadsAboveMaxHead(t *testing.T) {
	host := crlf(first, "host: a")
	for _, s := range []string{
		filled("", ""), filled("", "\r"), filled("GET /", ""), filled("GET /", " HTTP/1.1\r"), filled("GET /", " HTTP/1.1"), filled("a\x00", ""),
		filled(crlf(first)+"b: ", ""), filled(crlf(first)+"b: ", "\r"), filled(crlf(first)+"b ", "\r"), filled(crlf(first)+"transfer-encoding: ", "\r"), filled(crlf(first)+"content-length: ", "\r"), filled(crlf(first)+"host: ", "\r"), filled(crlf(first)+"host: a.", ".\r"),
		filled(host+"b: ", "\r\n\r"), filled(host+"b: ", "\r\n"), filled(crlf(first)+"b: ", "\r\n\r"), filled(crlf(first)+"b: ", "\r\n"),
		filled(host+"b: ", "\r\n\r"), filled(host+"b: ", "\r\ntransfer-encoding: x\r"), filled(host+"b: ", "\r\nhost: a\r"), filled(host+"b: ", "\r\ncontent-length: 301\r"), filled(host+"b: ", "\r\na\r"),
		filled(begun(twelve...)[:len(begun(twelve...))-2], "\r\na: 13\r"),
	} {
		if len(s) != 600 {
			t.Fatalf("%d bytes: %q", len(s), s)
		}
		for _, last := range []string{"\n", "\r", "x", " ", "\x00", "\xff", ":"} {
			isRefused(t, s+last, api.TooMuch)
		}
	}
	isRefused(t, long(601), api.TooMuch)
	isRefused(t, long(602)[:601], api.TooMuch)
}

// With the last byte that a head may have all else is as ever.
func TestHeadsOfMaxHeadBytesThatAreRefused(t *testing.T) {
	host := crlf(first, "host: a")
	for _, c := range []struct{ ahead, last, want string }{
		{"", "\r\n", api.Bad}, {"", "\n", api.Bad}, {"GET /", " HTTP/1.0\r\n", api.Bad},
		{crlf(first) + "b ", "\r\n", api.Bad}, {crlf(first) + "transfer-encoding: ", "\r\n", api.NotDone}, {host + "b: ", "\r\ncontent-length: 301\r\n", api.TooLarge}, {crlf(first) + "b: ", "\r\n\r\n", api.Bad}, {host + "b: ", "\r\n\n", api.Bad},
		{begun(twelve...) + "b: ", "\r\n", api.TooMuch},
	} {
		s := filled(c.ahead, c.last)
		if len(s) != 600 {
			t.Fatalf("%d bytes: %q", len(s), s)
		}
		isRefused(t, s, c.want)
	}
}

// The second request of a connection is refused as the first one is, and the answer to the first one stays.
func TestRefusedBehindARequest(t *testing.T) {
	with := asked("content-length: 3") + "abc"
	for _, c := range []struct{ stream, want string }{
		{"\n", api.Bad}, {crlf(""), api.Bad}, {begun(""), api.Bad}, {begun("transfer-encoding:"), api.NotDone}, {begun("content-length: 301"), api.TooLarge}, {begun(twelve...) + crlf("host: a"), api.TooMuch}, {long(601), api.TooMuch},
	} {
		isAnswered(t, with+c.stream+with, api.NoPolicy, c.want)
		isAnswered(t, simple+c.stream+simple, api.NoPolicy, c.want)
	}
}
