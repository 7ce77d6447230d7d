package policy

import (
	"strings"

	"switchyard/letters"
)

// IsHost tells whether a host may be called so.
func IsHost(s string) bool {
	return s == "*" || letters.IsName(strings.TrimPrefix(s, "*."))
}

// IsPath tells whether a path, or what it is replaced by, may be so.
func IsPath(s string) bool {
	return strings.HasPrefix(s, "/") && letters.All(s, isPathByte)
}

func isPathByte(c byte) bool {
	return 33 <= c && c <= 126 && c != '?' && c != '#' && c != '"'
}

// IsHeader tells whether a policy may speak of a header of this name.
func IsHeader(s string) bool {
	switch letters.Small(s) {
	case "host", "content-length", "transfer-encoding":
		return false
	}
	return letters.IsLabel(s)
}

// IsValue tells whether a policy may give a header this value, or ask for it.
func IsValue(s string) bool {
	return letters.All(s, isValueByte) && strings.Trim(s, " ") == s
}

func isValueByte(c byte) bool {
	return 32 <= c && c <= 126 && c != '"'
}

// IsUpstream tells whether an upstream may be called so.
func IsUpstream(s string) bool {
	return s != "" && letters.All(s, isUpstreamByte)
}

func isUpstreamByte(c byte) bool {
	return letters.IsSmall(c) || letters.IsDigit(c) || c == '.' || c == '-' || c == ':'
}
