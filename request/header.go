package request

import (
	"strconv"
	"strings"

	"switchyard/api"
	"switchyard/letters"
)

// header has its name in small letters, and its value without the blanks ahead and behind.
type header struct {
	name  string
	value string
}

func readHeader(line string) (header, bool) {
	name, value, found := strings.Cut(line, ":")
	if !found || !letters.IsLabel(name) || !letters.All(value, isValueByte) {
		return header{}, false
	}
	return header{name: letters.Small(name), value: strings.Trim(value, " ")}, true
}

func isValueByte(c byte) bool { return 32 <= c && c <= 126 }

// refusal is what goes back to the client for a header behind those ahead of it, or nothing.
func refusal(next header, ahead ...header) string {
	if len(ahead) == api.MaxHeaders {
		return api.TooMuch
	}
	switch next.name {
	case "transfer-encoding":
		return api.NotDone
	case "content-length":
		return lengthRefusal(next, ahead...)
	case "host":
		return badUnless(isHost(next.value) && !has(next.name, ahead...))
	}
	return ""
}

func lengthRefusal(next header, ahead ...header) string {
	switch {
	case has(next.name, ahead...) || !isNumber(next.value):
		return api.Bad
	case number(next.value) > api.MaxBody:
		return api.TooLarge
	}
	return ""
}

func isHost(s string) bool {
	name, port, hasPort := strings.Cut(s, ":")
	return letters.IsName(name) && (!hasPort || isNumber(port))
}

const maxDigits = 5

func isNumber(s string) bool {
	return s != "" && len(s) <= maxDigits && letters.All(s, letters.IsDigit)
}

// number is for what isNumber holds of; of nothing it is 0.
func number(s string) int {
	n, _ := strconv.Atoi(s)
	return n
}

func has(name string, list ...header) bool {
	return len(named(name, list...)) > 0
}

// value is that of the first header of a name, or nothing.
func value(name string, list ...header) string {
	found := named(name, list...)
	if len(found) == 0 {
		return ""
	}
	return found[0].value
}

// named puts the headers of one name together, in their order.
func named(name string, list ...header) []header {
	var found []header
	for _, one := range list {
		if one.name == name {
			found = append(found, one)
		}
	}
	return found
}
