package letters

import "testing"

func TestSmallLeavesAllBytesButLargeLetters(t *testing.T) {
	for b := range 256 {
		want := byte(b)
		if 'A' <= want && want <= 'Z' {
			want += 32
		}
		if got := Small(string([]byte{byte(b)})); got != string([]byte{want}) {
			t.Errorf("Small of the byte %d is %q", b, got)
		}
	}
	if got := Small("A\u212a\xff\u00c4Z"); got != "a\u212a\xff\u00c4z" {
		t.Errorf("Small changes what is no large letter here: %q", got)
	}
}

func TestNames(t *testing.T) {
	for s, want := range map[string]bool{"a": true, "A-0.b": true, "-": true, "": false, ".": false, "a.": false, ".a": false, "a..b": false, "a_": false, "*": false} {
		if IsName(s) != want {
			t.Errorf("IsName(%q) is not %v", s, want)
		}
	}
}

func TestRun(t *testing.T) {
	for s, want := range map[string]int{"": 0, "a1": 0, "1": 1, "12a3": 2} {
		if got := Run(s, IsDigit); got != want {
			t.Errorf("Run(%q) = %d, want %d", s, got, want)
		}
	}
}
