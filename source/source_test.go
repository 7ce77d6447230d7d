package source

import (
	"strings"
	"testing"

	"switchyard/api"
)

// How long a text may be is not for the reader to say.
func TestReadTakesTextsOfAnyLength(t *testing.T) {
	far := strings.Repeat(" \n", api.MaxText)
	p, err, at := Read(far + `host "A" {}` + far)
	if err != api.OK || at != 0 || len(p.Hosts) != 1 || p.Hosts[0].Name != "a" {
		t.Errorf("%v, %d, %d", p, err, at)
	}
	if p, err, at := Read(far + "}"); err != api.ErrText || at != len(far) || p.Hosts != nil {
		t.Errorf("%v, %d, %d", p, err, at)
	}
	if p, err, at := Read(far + `host "" {}`); err != api.ErrValue || at != len(far)+5 || p.Hosts != nil {
		t.Errorf("%v, %d, %d", p, err, at)
	}
}

func TestTokens(t *testing.T) {
	text := " ab12\"a b\"{ 123456"
	want := []token{
		{kindWord, 1, "ab"}, {kindNumber, 3, "12"}, {kindString, 5, "\"a b\""}, {kindSign, 10, "{"}, {kindWrong, 12, ""},
	}
	place := 0
	for _, w := range want {
		got := tokenFrom(text, place)
		if got != w {
			t.Errorf("from %d on: %v, want %v", place, got, w)
		}
		place = got.at + len(got.raw)
	}
	if got := tokenFrom(" \n", 0); got != (token{kindEnd, 2, ""}) {
		t.Errorf("at the end: %v", got)
	}
}
