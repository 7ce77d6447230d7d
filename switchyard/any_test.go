package switchyard_test

import (
	"math/rand"
	"strings"
	"testing"
	"unsafe"

	"switchyard/api"
	"switchyard/switchyard"
)

// P1 and P2, as far as Plain goes.

// holds looks at what must be so of every text.
func holds(t *testing.T, text string) {
	t.Helper()
	plain, err, at := switchyard.Plain(text)
	switch err {
	case api.OK:
		if at != 0 {
			t.Fatalf("Plain(%q): OK, but the place %d", text, at)
		}
		if again, err, at := switchyard.Plain(plain); len(plain) <= api.MaxText && (again != plain || err != api.OK || at != 0) {
			t.Fatalf("Plain(%q) = %q, %d, %d", plain, again, err, at)
		}
	case api.ErrLong:
		if plain != "" || at != 0 || len(text) <= api.MaxText {
			t.Fatalf("Plain(%q) = %q, ErrLong, %d", text, plain, at)
		}
	case api.ErrText:
		if plain != "" || at < 0 || at > len(text) || len(text) > api.MaxText {
			t.Fatalf("Plain(%q) = %q, ErrText, %d", text, plain, at)
		}
	case api.ErrMany, api.ErrValue, api.ErrTwice:
		if plain != "" || at <= 0 || at >= len(text) || len(text) > api.MaxText {
			t.Fatalf("Plain(%q) = %q, %d, %d", text, plain, err, at)
		}
	default:
		t.Fatalf("Plain(%q) = %q, %d, %d: not an error of Plain", text, plain, err, at)
	}
	if plain2, err2, at2 := switchyard.Plain(text); plain2 != plain || err2 != err || at2 != at {
		t.Fatalf("Plain(%q) answers otherwise when it is asked again", text)
	}
}

func TestTextsOfAnyBytes(t *testing.T) {
	source := rand.New(rand.NewSource(1))
	for range 3000 {
		b := make([]byte, source.Intn(200))
		source.Read(b)
		holds(t, string(b))
	}
	for _, b := range []byte("\x00 \n\"a0{};=,\xff") {
		holds(t, strings.Repeat(string([]byte{b}), api.MaxText))
		holds(t, strings.Repeat(string([]byte{b}), api.MaxText+1))
	}
}

func TestTextsOfAnyTokens(t *testing.T) {
	source := rand.New(rand.NewSource(2))
	tokens := strings.Fields(`host rule path header to replace set drop "a" "A" "*" "/" "" "host" 0 1 01 1001 65536 { } ; = , ?`)
	for range 20000 {
		var text strings.Builder
		for range source.Intn(40) {
			text.WriteString(tokens[source.Intn(len(tokens))] + " ")
		}
		holds(t, text.String())
	}
}

// Every policy that is one byte off another one.
func TestTextsOneByteOffAPolicy(t *testing.T) {
	for i := range len(whole) {
		holds(t, whole[:i])
		holds(t, whole[i:])
		holds(t, whole[:i]+whole[i+1:])
		for _, c := range []byte("a A0\"{};=,*./\n\x00\xff") {
			holds(t, whole[:i]+string([]byte{c})+whole[i:])
			holds(t, whole[:i]+string([]byte{c})+whole[i+1:])
		}
	}
}

// Policies with tokens changed: most are still policies, with faults or without.
func TestPoliciesWithOtherTokens(t *testing.T) {
	source := rand.New(rand.NewSource(3))
	tokens := strings.Fields(strings.NewReplacer(";", " ;", ",", " ,").Replace(whole + whole))
	values := []string{`"a"`, `"A"`, `"*"`, `"*.a"`, `"/"`, `""`, `"host"`, `"x:1"`, "0", "1", "01", "1000", "1001", "65535", "65536"}
	for range 20000 {
		changed := append([]string(nil), tokens...)
		for range source.Intn(12) {
			i := source.Intn(len(changed))
			other := values[source.Intn(len(values))]
			if (changed[i][0] == '"') == (other[0] == '"') && strings.ContainsRune(`"0123456789`, rune(changed[i][0])) {
				changed[i] = other
			}
		}
		holds(t, strings.Join(changed, " "))
	}
}

func FuzzPlain(f *testing.F) {
	for _, text := range []string{"", whole, `host "a" {}`, `host "a`, inHost(rules(7)), inRule(`to "u" 0;`)} {
		f.Add(text)
	}
	f.Fuzz(holds)
}

func TestPlainIsNewMemory(t *testing.T) {
	first, _, _ := switchyard.Plain(whole)
	second, _, _ := switchyard.Plain(whole)
	if first != whole || unsafe.StringData(first) == unsafe.StringData(whole) || unsafe.StringData(first) == unsafe.StringData(second) {
		t.Error("the answer is memory that was there already")
	}
}
