package request

import (
	"strings"

	"switchyard/letters"
	"switchyard/policy"
)

// What is asked of a whole head: these are for one that was not refused.

// Body is how many bytes the body has.
func (h *Head) Body() int {
	return number(value("content-length", h.headers...))
}

// Host is the host that the request is for, without its port, in small letters.
func (h *Head) Host() string {
	name, _, _ := strings.Cut(value("host", h.headers...), ":")
	return letters.Small(name)
}

// Path is the part of the target by which rules are found.
func (h *Head) Path() string {
	path, _, _ := strings.Cut(h.target, "?")
	return path
}

// Meets tells whether the request has all headers that are asked for, as they came in.
func (h *Head) Meets(matches ...policy.Match) bool {
	for _, match := range matches {
		if !meets(match, named(match.Header, h.headers...)...) {
			return false
		}
	}
	return true
}

// meets is given the headers of the name that is asked for, and no others.
func meets(match policy.Match, ofName ...header) bool {
	for _, one := range ofName {
		if !match.HasValue || one.value == match.Value {
			return true
		}
	}
	return false
}
