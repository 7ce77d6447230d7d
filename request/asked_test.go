package request

import "testing"

// headOf takes a whole head.
func headOf(t *testing.T, s string) *Head {
	t.Helper()
	var h Head
	for i := range len(s) {
		whole, refused := h.Take(s[i])
		if refused != "" || whole != (i == len(s)-1) {
			t.Fatalf("%q: at %d: whole %v, refused %q", s, i, whole, refused)
		}
	}
	return &h
}

// No path of a rule has a "?", so that from outside it is not to be seen where a target's path ends.
func TestPathEndsAheadOfTheFirstQuestionMark(t *testing.T) {
	for target, want := range map[string]string{"/": "/", "/a": "/a", "/a?b": "/a", "/?": "/", "/a?b?c": "/a", "/a#b?c": "/a#b", "//a/?/": "//a/"} {
		h := headOf(t, "GET "+target+" HTTP/1.1\r\nhost: a\r\n\r\n")
		if got := h.Path(); got != want {
			t.Errorf("the path of %q is %q, want %q", target, got, want)
		}
	}
}

func TestHostAndBody(t *testing.T) {
	h := headOf(t, "GET / HTTP/1.1\r\nHost:  A.b:080 \r\nContent-Length: 007\r\n\r\n")
	if h.Host() != "a.b" || h.Body() != 7 {
		t.Errorf("%q, %d", h.Host(), h.Body())
	}
	if h := headOf(t, "GET / HTTP/1.1\r\nhost: c\r\n\r\n"); h.Host() != "c" || h.Body() != 0 {
		t.Errorf("%q, %d", h.Host(), h.Body())
	}
}
