package switchyard_test

import (
	"regexp"
	"strconv"
	"strings"

	"switchyard/api"
)

// A second reading of what the document says of requests, of all bytes at once: the yard is held against it.

var (
	firstForm  = regexp.MustCompile(`\A[A-Z]{1,8} /[!-~]* HTTP/1\.1\r\n\z`)
	headerForm = regexp.MustCompile(`\A([A-Za-z0-9-]+): *([ -~]*?) *\r\n\z`)
	lengthForm = regexp.MustCompile(`\A[0-9]{1,5}\z`)
	hostForm   = regexp.MustCompile(`\A[A-Za-z0-9-]+(\.[A-Za-z0-9-]+)*(:[0-9]{1,5})?\z`)
)

// expected is what goes back for all bytes of a connection, and whether it is over by them.
func expected(stream string) (answers []string, over bool) {
	for {
		head, body, refused := judged(stream)
		if refused != "" {
			return append(answers, refused), true
		}
		if head == 0 || head+body > len(stream) {
			return answers, false
		}
		answers = append(answers, api.NoPolicy)
		stream = stream[head+body:]
	}
}

// judged tells how long the first head and its body are, if that head is whole, or why it is refused.
func judged(stream string) (head, body int, refused string) {
	seen := map[string]int{}
	for i, line := range strings.SplitAfter(stream[:min(len(stream), api.MaxHead)], "\n") {
		if !strings.HasSuffix(line, "\n") {
			break
		}
		head += len(line)
		switch {
		case i == 0 && firstForm.MatchString(line):
		case i > 0 && line == "\r\n" && seen["host"] == 1:
			return head, body, ""
		case i > 0 && headerForm.MatchString(line):
			parts := headerForm.FindStringSubmatch(line)
			name := strings.ToLower(parts[1])
			seen[name]++
			if answer := judgedHeader(i, seen[name], name, parts[2]); answer != "" {
				return 0, 0, answer
			}
			if name == "content-length" {
				body, _ = strconv.Atoi(parts[2])
			}
		default:
			return 0, 0, api.Bad
		}
	}
	if len(stream) > api.MaxHead {
		return 0, 0, api.TooMuch
	}
	return 0, 0, ""
}

// judgedHeader asks of the header with this place, which is the so manyeth of its name.
func judgedHeader(place, ofName int, name, value string) string {
	size, _ := strconv.Atoi(value)
	switch {
	case place > api.MaxHeaders:
		return api.TooMuch
	case name == "transfer-encoding":
		return api.NotDone
	case name == "content-length" && (ofName > 1 || !lengthForm.MatchString(value)):
		return api.Bad
	case name == "content-length" && size > api.MaxBody:
		return api.TooLarge
	case name == "host" && (ofName > 1 || !hostForm.MatchString(value)):
		return api.Bad
	}
	return ""
}
