package switchyard_test

import (
	"bytes"
	"math/rand"
	"strings"
	"testing"
	"unsafe"

	"switchyard/api"
	"switchyard/switchyard"
)

// P1 and P2, as far as Plain, Pack and Unpack go.

// holds looks at what must be so of every text.
func holds(t *testing.T, text string) {
	t.Helper()
	plain, err, at := switchyard.Plain(text)
	switch err {
	case api.OK:
		if at != 0 {
			t.Fatalf("Plain(%q): OK, but the place %d", text, at)
		}
		if again, err, at := switchyard.Plain(plain); len(plain) <= api.MaxText && (again != plain || err != api.OK || at != 0) {
			t.Fatalf("Plain(%q) = %q, %d, %d", plain, again, err, at)
		}
	case api.ErrLong:
		if plain != "" || at != 0 || len(text) <= api.MaxText {
			t.Fatalf("Plain(%q) = %q, ErrLong, %d", text, plain, at)
		}
	case api.ErrText:
		if plain != "" || at < 0 || at > len(text) || len(text) > api.MaxText {
			t.Fatalf("Plain(%q) = %q, ErrText, %d", text, plain, at)
		}
	case api.ErrMany, api.ErrValue, api.ErrTwice:
		if plain != "" || at <= 0 || at >= len(text) || len(text) > api.MaxText {
			t.Fatalf("Plain(%q) = %q, %d, %d", text, plain, err, at)
		}
	default:
		t.Fatalf("Plain(%q) = %q, %d, %d: not an error of Plain", text, plain, err, at)
	}
	if plain2, err2, at2 := switchyard.Plain(text); plain2 != plain || err2 != err || at2 != at {
		t.Fatalf("Plain(%q) answers otherwise when it is asked again", text)
	}
	packsAsPlain(t, text, plain, err, at)
}

// packsAsPlain holds Pack, and Unpack behind it, against what Plain answered.
func packsAsPlain(t *testing.T, text, plain string, err api.Errno, at int) {
	t.Helper()
	blob, packErr, packAt := switchyard.Pack(text)
	if packErr != err || packAt != at || (len(blob) == 0) != (err != api.OK) {
		t.Fatalf("Pack(%q) = %q, %d, %d, but Plain has %d, %d", text, blob, packErr, packAt, err, at)
	}
	if err != api.OK {
		return
	}
	if got, err := switchyard.Unpack(blob); got != plain || err != api.OK {
		t.Fatalf("Unpack(%q) = %q, %d, want %q", blob, got, err, plain)
	}
}

func TestTextsOfAnyBytes(t *testing.T) {
	source := rand.New(rand.NewSource(1))
	for range 3000 {
		b := make([]byte, source.Intn(200))
		source.Read(b)
		holds(t, string(b))
	}
	for _, b := range []byte("\x00 \n\"a0{};=,\xff") {
		holds(t, strings.Repeat(string([]byte{b}), api.MaxText))
		holds(t, strings.Repeat(string([]byte{b}), api.MaxText+1))
	}
}

func TestTextsOfAnyTokens(t *testing.T) {
	source := rand.New(rand.NewSource(2))
	tokens := strings.Fields(`host rule path header to replace set drop "a" "A" "*" "/" "" "host" 0 1 01 1001 65536 { } ; = , ?`)
	for range 20000 {
		var text strings.Builder
		for range source.Intn(40) {
			text.WriteString(tokens[source.Intn(len(tokens))] + " ")
		}
		holds(t, text.String())
	}
}

// Every policy that is one byte off another one.
func TestTextsOneByteOffAPolicy(t *testing.T) {
	for i := range len(whole) {
		holds(t, whole[:i])
		holds(t, whole[i:])
		holds(t, whole[:i]+whole[i+1:])
		for _, c := range []byte("a A0\"{};=,*./\n\x00\xff") {
			holds(t, whole[:i]+string([]byte{c})+whole[i:])
			holds(t, whole[:i]+string([]byte{c})+whole[i+1:])
		}
	}
}

// Policies with tokens changed: most are still policies, with faults or without.
func TestPoliciesWithOtherTokens(t *testing.T) {
	source := rand.New(rand.NewSource(3))
	tokens := strings.Fields(strings.NewReplacer(";", " ;", ",", " ,").Replace(whole + whole))
	values := []string{`"a"`, `"A"`, `"*"`, `"*.a"`, `"/"`, `""`, `"host"`, `"x:1"`, "0", "1", "01", "1000", "1001", "65535", "65536"}
	for range 20000 {
		changed := append([]string(nil), tokens...)
		for range source.Intn(12) {
			i := source.Intn(len(changed))
			other := values[source.Intn(len(values))]
			if (changed[i][0] == '"') == (other[0] == '"') && strings.ContainsRune(`"0123456789`, rune(changed[i][0])) {
				changed[i] = other
			}
		}
		holds(t, strings.Join(changed, " "))
	}
}

func FuzzPlain(f *testing.F) {
	for _, text := range []string{"", whole, `host "a" {}`, `host "a`, inHost(rules(7)), inRule(`to "u" 0;`)} {
		f.Add(text)
	}
	f.Fuzz(holds)
}

// blobHolds looks at what must be so of all bytes.
func blobHolds(t *testing.T, blob []byte) {
	t.Helper()
	handed, before := withRoom(blob)
	plain, err := switchyard.Unpack(handed)
	switch {
	case !bytes.Equal(handed[:cap(handed)], before):
		t.Fatalf("Unpack(%q) wrote into what was handed in, or behind it", blob)
	case err != api.OK && err != api.ErrBlob || err == api.ErrBlob && plain != "":
		t.Fatalf("Unpack(%q) = %q, %d", blob, plain, err)
	case err == api.OK && len(plain) <= api.MaxText && !bytes.Equal(packedOf(t, plain), blob):
		t.Fatalf("Unpack(%q) = %q, of which Pack makes something else", blob, plain)
	}
	if plain2, err2 := switchyard.Unpack(blob); plain2 != plain || err2 != err {
		t.Fatalf("Unpack(%q) answers otherwise when it is asked again", blob)
	}
}

// withRoom copies bytes to where other bytes stand behind them, in their spare room, and answers all of these too.
func withRoom(b []byte) ([]byte, []byte) {
	all := append(bytes.Clone(b), "SY1\x00 and so on"...)
	return all[:len(b):len(all)], bytes.Clone(all)
}

func TestBlobsOfAnyBytes(t *testing.T) {
	source := rand.New(rand.NewSource(4))
	for range 3000 {
		b := make([]byte, source.Intn(200))
		source.Read(b)
		blobHolds(t, b)
		blobHolds(t, sealed("SY1", string(b)))
	}
	for b := range 256 {
		same := strings.Repeat(string([]byte{byte(b)}), 10000)
		blobHolds(t, []byte(same))
		blobHolds(t, sealed("SY1", same))
	}
}

// Bytes with few different ones: these come much further.
func TestBlobsOfLikelyBytes(t *testing.T) {
	source := rand.New(rand.NewSource(5))
	ahead := string(unsealed(packedOf(t, whole)))
	for range 30000 {
		b := []byte(ahead)
		for range source.Intn(4) + 1 {
			b[source.Intn(len(b))] = "\x00\x01\x02\x03\x04\x05/a*.\""[source.Intn(11)]
		}
		blobHolds(t, sealed(string(b)))
	}
}

// Every packed policy that is one byte off another one, with the sum that it has then.
func TestBlobsOneByteOffAPolicy(t *testing.T) {
	ahead := string(unsealed(packedOf(t, whole)))
	for i := range ahead {
		blobHolds(t, sealed(ahead[:i]))
		blobHolds(t, sealed(ahead[:i], ahead[i+1:]))
		for b := range 256 {
			c := string([]byte{byte(b)})
			blobHolds(t, sealed(ahead[:i], c, ahead[i:]))
			blobHolds(t, sealed(ahead[:i], c, ahead[i+1:]))
		}
	}
}

func FuzzUnpack(f *testing.F) {
	for _, text := range []string{"", whole, `host "a" {}`, inHost(rules(6))} {
		blob, _, _ := switchyard.Pack(text)
		f.Add(unsealed(blob))
	}
	f.Fuzz(func(t *testing.T, b []byte) {
		blobHolds(t, b)
		blobHolds(t, sealed(string(b)))
	})
}

func TestPlainIsNewMemory(t *testing.T) {
	first, _, _ := switchyard.Plain(whole)
	second, _, _ := switchyard.Plain(whole)
	if first != whole || unsafe.StringData(first) == unsafe.StringData(whole) || unsafe.StringData(first) == unsafe.StringData(second) {
		t.Error("the answer is memory that was there already")
	}
}

func TestPackIsNewMemory(t *testing.T) {
	for _, text := range []string{"", `host "a" {}`, whole} {
		first, second := packedOf(t, text), packedOf(t, text)
		want := bytes.Clone(first)
		for i := range first[:cap(first)] {
			first[:cap(first)][i] ^= 0xff
		}
		if !bytes.Equal(second, want) || !bytes.Equal(packedOf(t, text), want) {
			t.Errorf("Pack(%q): what the caller writes into an answer changes another one", text)
		}
		if apart := separate(first, second); !apart {
			t.Errorf("Pack(%q): two answers have a place in common", text)
		}
	}
}

// separate tells whether two lists have no place in common, their spare room too.
func separate[T any](a, b []T) bool {
	var one T
	size := unsafe.Sizeof(one)
	aFrom, bFrom := uintptr(unsafe.Pointer(unsafe.SliceData(a))), uintptr(unsafe.Pointer(unsafe.SliceData(b)))
	return aFrom+size*uintptr(cap(a)) <= bFrom || bFrom+size*uintptr(cap(b)) <= aFrom
}

func TestUnpackKeepsNothingOfWhatIsHandedIn(t *testing.T) {
	blob := packedOf(t, whole)
	plain, _ := switchyard.Unpack(blob)
	for i := range blob[:cap(blob)] {
		blob[:cap(blob)][i] ^= 0xff
	}
	if plain != whole {
		t.Errorf("the plain form changed with the bytes that it came of: %q", plain)
	}
}

func TestUnpackIsNewMemory(t *testing.T) {
	blob := packedOf(t, whole)
	first, _ := switchyard.Unpack(blob)
	second, _ := switchyard.Unpack(blob)
	if first != whole || unsafe.StringData(first) == unsafe.StringData(second) {
		t.Error("the answer is memory that was there already")
	}
}
