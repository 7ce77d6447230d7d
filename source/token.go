package source

import (
	"strings"

	"switchyard/api"
	"switchyard/letters"
)

type kind int

const (
	kindEnd kind = iota // the end of the text, behind all tokens
	kindWord
	kindNumber
	kindString
	kindSign
	kindWrong
)

const (
	signs     = "{};=,"
	maxDigits = 5 // noughts ahead count too
)

// token has in raw what stands in the text, the quotes of a string too,
// so that a word and a string of the same letters differ. Of a wrong one it is empty.
type token struct {
	kind kind
	at   int
	raw  string
}

// tokenFrom finds the first token at or behind a place.
func tokenFrom(text string, place int) token {
	at := place + letters.Run(text[place:], isBlank)
	size, found := measure(text[at:])
	return token{kind: found, at: at, raw: text[at : at+size]}
}

// measure tells how long the token is with which s begins, and of which kind.
func measure(s string) (int, kind) {
	switch {
	case s == "":
		return 0, kindEnd
	case letters.IsSmall(s[0]):
		return letters.Run(s, letters.IsSmall), kindWord
	case letters.IsDigit(s[0]):
		return measureNumber(s)
	case s[0] == '"':
		return measureString(s)
	case strings.IndexByte(signs, s[0]) >= 0:
		return 1, kindSign
	}
	return 0, kindWrong
}

func measureNumber(s string) (int, kind) {
	size := letters.Run(s, letters.IsDigit)
	if size > maxDigits {
		return 0, kindWrong
	}
	return size, kindNumber
}

func measureString(s string) (int, kind) {
	inside, _, closed := strings.Cut(s[1:], "\"")
	if !closed || len(inside) > api.MaxString || strings.Contains(inside, "\n") {
		return 0, kindWrong
	}
	return len(inside) + 2, kindString
}

func isBlank(c byte) bool { return c == ' ' || c == '\n' }
