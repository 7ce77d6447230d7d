// Package request: reads the heads of requests, and says what is refused of them.
package request

import (
	"strings"

	"switchyard/api"
	"switchyard/letters"
)

// Head is the head of one request, as far as its bytes have come.
type Head struct {
	size    int // in bytes, line ends too
	line    []byte
	begun   bool // the first line has come
	headers []header
}

// Take takes the next byte. It answers whether the head is whole by it,
// and what goes back to the client, if it is refused: then there is nothing more to take.
func (h *Head) Take(c byte) (whole bool, refused string) {
	h.size++
	if h.size > api.MaxHead {
		return false, api.TooMuch
	}
	if c != '\n' {
		h.line = append(h.line, c)
		return false, ""
	}
	line := string(h.line)
	h.line = nil
	return h.look(line)
}

// look need not ask for bytes 13 elsewhere: they fit nowhere in a line.
func (h *Head) look(line string) (whole bool, refused string) {
	line, ended := strings.CutSuffix(line, "\r")
	switch {
	case !ended:
		return false, api.Bad
	case !h.begun:
		h.begun = true
		return false, badUnless(isFirst(line))
	case line == "":
		return true, badUnless(has("host", h.headers...))
	}
	return false, h.add(line)
}

func (h *Head) add(line string) (refused string) {
	next, is := readHeader(line)
	if !is {
		return api.Bad
	}
	refused = refusal(next, h.headers...)
	h.headers = append(h.headers, next)
	return refused
}

// Body is how many bytes the body behind a whole head has.
func (h *Head) Body() int {
	length := 0
	for _, one := range named("content-length", h.headers...) {
		length = number(one.value)
	}
	return length
}

func isFirst(line string) bool {
	parts := strings.Split(line, " ")
	return len(parts) == 3 && isMethod(parts[0]) && isTarget(parts[1]) && parts[2] == "HTTP/1.1"
}

func isMethod(s string) bool {
	return s != "" && len(s) <= api.MaxMethod && letters.All(s, letters.IsLarge)
}

func isTarget(s string) bool {
	return strings.HasPrefix(s, "/") && letters.All(s, isTargetByte)
}

func isTargetByte(c byte) bool { return 33 <= c && c <= 126 }

func badUnless(right bool) string {
	if right {
		return ""
	}
	return api.Bad
}
