package switchyard_test

import (
	"bytes"
	"hash/crc32"
	"strings"
	"testing"

	"switchyard/api"
	"switchyard/switchyard"
)

// What the tests of Pack, Unpack and Push put bytes together with.

// sealed puts the sum behind bytes.
func sealed(parts ...string) []byte {
	b := []byte(strings.Join(parts, ""))
	n := crc32.ChecksumIEEE(b)
	return append(b, byte(n), byte(n>>8), byte(n>>16), byte(n>>24))
}

// unsealed takes the sum away.
func unsealed(blob []byte) []byte { return blob[:len(blob)-4] }

func one(n int) string { return string([]byte{byte(n)}) }

func two(n int) string { return one(n) + one(n>>8) }

func text(s string) string { return one(len(s)) + s }

// all puts the number of things ahead of them.
func all(things ...string) string { return one(len(things)) + strings.Join(things, "") }

// parts are the bytes of one rule, apart, so that a test can change one of them.
type parts struct {
	number, path, matches, targets, replace, sets, drops string
}

const none = "\x00"

// usual: rule 5 { path "/"; to "u" 1; }
func usual() parts {
	return parts{number: two(5), path: text("/"), matches: none, targets: all(text("u") + two(1)), replace: none, sets: none, drops: none}
}

func (p parts) bytes() string {
	return p.number + p.path + p.matches + p.targets + p.replace + p.sets + p.drops
}

// numbered: the usual rule with another number.
func numbered(n int) string {
	p := usual()
	p.number = two(n)
	return p.bytes()
}

func blobOfHosts(hosts ...string) []byte { return sealed("SY1", all(hosts...)) }

func blobOfRules(rules ...string) []byte { return blobOfHosts(text("h") + all(rules...)) }

// changed: the packed policy of the host h with one rule, the usual one after a change.
func changed(change func(p *parts)) []byte {
	p := usual()
	change(&p)
	return blobOfRules(p.bytes())
}

func packedOf(t *testing.T, text string) []byte {
	t.Helper()
	blob, err, at := switchyard.Pack(text)
	if err != api.OK || at != 0 {
		t.Fatalf("Pack(%q): error %d at %d, want none", text, err, at)
	}
	return blob
}

func packsTo(t *testing.T, text string, want []byte) {
	t.Helper()
	if got := packedOf(t, text); !bytes.Equal(got, want) {
		t.Errorf("Pack(%q) = %q, want %q", text, got, want)
	}
}

func unpacks(t *testing.T, blob []byte, want string) {
	t.Helper()
	if got, err := switchyard.Unpack(blob); got != want || err != api.OK {
		t.Errorf("Unpack(%q) = %q, error %d, want %q", blob, got, err, want)
	}
}

// isPacked holds that bytes are the packed policy of some text, whatever text that is.
func isPacked(t *testing.T, blob []byte) {
	t.Helper()
	if _, err := switchyard.Unpack(blob); err != api.OK {
		t.Errorf("Unpack(%q): error %d, want none", blob, err)
	}
}

func isNotPacked(t *testing.T, blob []byte) {
	t.Helper()
	if got, err := switchyard.Unpack(blob); got != "" || err != api.ErrBlob {
		t.Errorf("Unpack(%q) = %q, error %d, want ErrBlob", blob, got, err)
	}
}
