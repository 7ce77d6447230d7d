// Package request: reads the heads of requests, says what is refused of them, and writes them as they are sent.
package request

import (
	"strings"

	"switchyard/api"
	"switchyard/letters"
)

const version = "HTTP/1.1"

// Head is the head of one request, as far as its bytes have come.
type Head struct {
	size    int // in bytes, line ends too
	line    []byte
	method  string // empty: the first line has not come
	target  string
	headers []header
}

// Take takes the next byte. It answers whether the head is whole by it,
// and what goes back to the client, if it is refused: then there is nothing more to take.
func (h *Head) Take(c byte) (whole bool, refused string) {
	h.size++
	if h.size > api.MaxHead {
		return false, api.TooMuch
	}
	if c != '\n' {
		h.line = append(h.line, c)
		return false, ""
	}
	line := string(h.line)
	h.line = nil
	return h.look(line)
}

// look need not ask for bytes 13 elsewhere: they fit nowhere in a line.
func (h *Head) look(line string) (whole bool, refused string) {
	line, ended := strings.CutSuffix(line, "\r")
	switch {
	case !ended:
		return false, api.Bad
	case h.method == "":
		return false, badUnless(h.begin(line))
	case line == "":
		return true, badUnless(has("host", h.headers...))
	}
	return false, h.add(line)
}

func (h *Head) begin(line string) bool {
	parts := strings.Split(line, " ")
	if len(parts) != 3 || !isMethod(parts[0]) || !isTarget(parts[1]) || parts[2] != version {
		return false
	}
	h.method, h.target = parts[0], parts[1]
	return true
}

func (h *Head) add(line string) (refused string) {
	next, is := readHeader(line)
	if !is {
		return api.Bad
	}
	refused = refusal(next, h.headers...)
	h.headers = append(h.headers, next)
	return refused
}

func isMethod(s string) bool {
	return s != "" && len(s) <= api.MaxMethod && letters.All(s, letters.IsLarge)
}

func isTarget(s string) bool {
	return strings.HasPrefix(s, "/") && letters.All(s, isTargetByte)
}

func isTargetByte(c byte) bool { return 33 <= c && c <= 126 }

func badUnless(right bool) string {
	if right {
		return ""
	}
	return api.Bad
}
