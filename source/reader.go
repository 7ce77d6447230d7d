package source

import (
	"strconv"

	"switchyard/api"
)

// reader goes through a text, token by token. Once a token does not fit it is broken:
// it stays at that token and sees none any more, so that all that calls it comes to an end.
type reader struct {
	text   string
	token  token
	broken bool
	fault  fault
}

// fault is an error other than ErrText, and where it stands.
type fault struct {
	err api.Errno
	at  int
}

func (r *reader) look(place int) {
	r.token = tokenFrom(r.text, place)
}

func (r *reader) sees(raw string) bool {
	return !r.broken && r.token.raw == raw
}

// take goes past a token that must be this word or this sign.
func (r *reader) take(raw string) {
	r.pass(r.token.raw == raw)
}

// takeString goes past a token that must be a string, and answers what is in it, and its place.
func (r *reader) takeString() (string, int) {
	here := r.token
	if !r.pass(here.kind == kindString) {
		return "", here.at
	}
	return here.raw[1 : len(here.raw)-1], here.at
}

// takeNumber goes past a token that must be a number, and answers it, and its place.
func (r *reader) takeNumber() (int, int) {
	here := r.token
	if !r.pass(here.kind == kindNumber) {
		return 0, here.at
	}
	// maxDigits digits are too few for Atoi to fail.
	n, _ := strconv.Atoi(here.raw)
	return n, here.at
}

// takeEnd is for where nothing but the end of the text may come.
func (r *reader) takeEnd() {
	r.pass(r.token.kind == kindEnd)
}

// pass goes on to the next token if this one fits, and tells whether it did.
func (r *reader) pass(fits bool) bool {
	if !fits {
		r.broken = true
	}
	if !r.broken {
		r.look(r.token.at + len(r.token.raw))
	}
	return !r.broken
}

// note keeps a fault if it goes ahead of the one that is kept: by its place, and at one place
// by its number, as these errors are numbered in the order in which they count.
func (r *reader) note(err api.Errno, at int) {
	kept := r.fault
	if kept.err == api.OK || at < kept.at || at == kept.at && err < kept.err {
		r.fault = fault{err: err, at: at}
	}
}

func (r *reader) noteIf(faulty bool, err api.Errno, at int) {
	if faulty {
		r.note(err, at)
	}
}

// oneMore is for the token with which one more of something begins, of which there may be most.
func (r *reader) oneMore(have, most int) {
	r.noteIf(have >= most, api.ErrMany, r.token.at)
}
