package switchyard_test

import (
	"bytes"
	"strings"
	"testing"

	"switchyard/api"
	"switchyard/switchyard"
)

// P7: bytes that are a packed policy, and bytes that are none.

func TestUnpackOfWhatPackGives(t *testing.T) {
	for _, text := range []string{"", `host "A" {}`, whole, inHost(rules(api.MaxRules)), times(api.MaxHosts, `host "?" {`+rules(api.MaxRules)+`} `)} {
		plain, _, _ := switchyard.Plain(text)
		unpacks(t, packedOf(t, text), plain)
	}
}

func TestUnpackOfWhatIsWrittenOutHere(t *testing.T) {
	unpacks(t, []byte("SY1\x00\xdd\x6d\xcc\x5d"), "")
	unpacks(t, sealed("SY1\x01\x01*\x00"), lines(`host "*" {`, `}`))
	unpacks(t, blobOfRules(usual().bytes()), lines(`host "h" {`, `  rule 5 {`, `    path "/";`, `    to "u" 1;`, `  }`, `}`))
	unpacks(t, sealed("SY1\x01\x05*.a.b\x01\x0a\x00\x02/x\x02\x04x-id\x00\x05x-env\x01\x04test\x02\x05u1:80\x03\x00\x02u2\x01\x00\x01\x02/y\x01\x05x-via\x04yard\x01\x04x-id"), whole)
}

func TestUnpackOfNothingAtAll(t *testing.T) {
	isNotPacked(t, nil)
	isNotPacked(t, []byte{})
	isNotPacked(t, make([]byte, 0, 100))
	isNotPacked(t, sealed(""))
}

func TestUnpackOfBytesThatAreCutOrLonger(t *testing.T) {
	blob := packedOf(t, whole)
	for i := range blob {
		isNotPacked(t, blob[:i])
		isNotPacked(t, blob[:i:i])
		if i != len(unsealed(blob)) {
			isNotPacked(t, sealed(string(blob[:i])))
		}
		isNotPacked(t, append(bytes.Clone(blob[:i]), blob[i+1:]...))
	}
	for i := range 256 {
		isNotPacked(t, append(bytes.Clone(blob), byte(i)))
		isNotPacked(t, sealed(string(unsealed(blob)), one(i)))
		isNotPacked(t, append([]byte{byte(i)}, blob...))
	}
	isNotPacked(t, append(bytes.Clone(blob), blob...))
	isNotPacked(t, sealed(string(blob)))
}

func TestUnpackOfBytesChangedAtAnyPlace(t *testing.T) {
	blob := packedOf(t, whole)
	for i := range blob {
		for x := 1; x < 256; x++ {
			other := bytes.Clone(blob)
			other[i] ^= byte(x)
			isNotPacked(t, other)
		}
	}
}

func TestUnpackOfASumInAnotherOrder(t *testing.T) {
	blob := packedOf(t, whole)
	n := len(blob)
	isNotPacked(t, append(unsealed(bytes.Clone(blob)), blob[n-1], blob[n-2], blob[n-3], blob[n-4]))
	isNotPacked(t, append(unsealed(bytes.Clone(blob)), ^blob[n-4], ^blob[n-3], ^blob[n-2], ^blob[n-1]))
}

func TestUnpackOfOtherBeginnings(t *testing.T) {
	for _, mark := range []string{"", "S", "SY", "SY2", "SY0", "sy1", "YS1", "\x00\x00\x00", "SY1S", "XSY1"} {
		isNotPacked(t, sealed(mark, "\x00"))
		isNotPacked(t, sealed(mark, all(text("h")+none)))
	}
}

func TestUnpackOfHostsOutOfOrderOrTwice(t *testing.T) {
	isPacked(t, blobOfHosts(text("a")+none, text("b")+none, text("b.a")+none))
	isNotPacked(t, blobOfHosts(text("b")+none, text("a")+none))
	isNotPacked(t, blobOfHosts(text("a")+none, text("*")+none))
	isNotPacked(t, blobOfHosts(text("ab")+none, text("a")+none))
	isNotPacked(t, blobOfHosts(text("a")+none, text("a")+none))
	isNotPacked(t, blobOfHosts(text("a")+none, text("b")+none, text("a")+none))
}

func TestUnpackOfRulesOutOfOrderOrTwice(t *testing.T) {
	isPacked(t, blobOfRules(numbered(0), numbered(255), numbered(256)))
	isNotPacked(t, blobOfRules(numbered(5), numbered(4)))
	isNotPacked(t, blobOfRules(numbered(256), numbered(1)))
	isNotPacked(t, blobOfRules(numbered(5), numbered(5)))
	isNotPacked(t, blobOfRules(numbered(5), numbered(6), numbered(5)))
	isPacked(t, blobOfHosts(text("a")+all(numbered(5)), text("b")+all(numbered(5)), text("c")+all(numbered(4))))
}

func TestUnpackOfHeadersTwice(t *testing.T) {
	isPacked(t, changed(func(p *parts) { p.matches = all(text("a")+none, text("a")+none) }))
	isPacked(t, changed(func(p *parts) { p.matches, p.drops = all(text("a")+none), all(text("a")) }))
	isPacked(t, changed(func(p *parts) {
		p.sets, p.drops = all(text("b")+text(""), text("a")+text("")), all(text("d"), text("c"))
	}))
	isNotPacked(t, changed(func(p *parts) { p.sets = all(text("a")+text("1"), text("a")+text("2")) }))
	isNotPacked(t, changed(func(p *parts) { p.drops = all(text("a"), text("b"), text("a")) }))
	isNotPacked(t, changed(func(p *parts) { p.sets, p.drops = all(text("a")+text("")), all(text("a")) }))
}

func TestUnpackOfLargeLetters(t *testing.T) {
	isNotPacked(t, blobOfHosts(text("H")+none))
	isNotPacked(t, blobOfHosts(text("*.H")+none))
	isNotPacked(t, changed(func(p *parts) { p.matches = all(text("A") + none) }))
	isNotPacked(t, changed(func(p *parts) { p.matches = all(text("A") + one(1) + text("v")) }))
	isNotPacked(t, changed(func(p *parts) { p.targets = all(text("U") + two(1)) }))
	isNotPacked(t, changed(func(p *parts) { p.sets = all(text("A") + text("")) }))
	isNotPacked(t, changed(func(p *parts) { p.drops = all(text("A")) }))
	isPacked(t, changed(func(p *parts) { p.path, p.replace = text("/A"), one(1)+text("/B") }))
	isPacked(t, changed(func(p *parts) { p.matches, p.sets = all(text("a")+one(1)+text("V")), all(text("a")+text("V")) }))
}

func TestUnpackOfWeights(t *testing.T) {
	for weight, fits := range map[int]bool{0: false, 1: true, 255: true, 256: true, 999: true, 1000: true, 1001: false, 1024: false, 65535: false} {
		target := text("u") + two(weight)
		for _, blob := range [][]byte{
			changed(func(p *parts) { p.targets = all(target) }),
			changed(func(p *parts) { p.targets = all(target, text("v")+two(1)) }),
			changed(func(p *parts) { p.targets = all(text("v")+two(1), target) }),
		} {
			if fits {
				isPacked(t, blob)
			} else {
				isNotPacked(t, blob)
			}
		}
	}
	isNotPacked(t, changed(func(p *parts) { p.targets = all(text("u")+two(0), text("v")+two(0)) }))
}

func TestUnpackOfNumbers(t *testing.T) {
	for number, want := range map[int]string{0: "0", 9: "9", 255: "255", 256: "256", 4660: "4660", 65535: "65535"} {
		unpacks(t, blobOfRules(numbered(number)), lines(`host "h" {`, `  rule `+want+` {`, `    path "/";`, `    to "u" 1;`, `  }`, `}`))
	}
}

func TestUnpackOfNoneOrMoreThanMayBe(t *testing.T) {
	for n := range 10 {
		atMost := func(most int, blob []byte) {
			t.Helper()
			if n <= most {
				isPacked(t, blob)
			} else {
				isNotPacked(t, blob)
			}
		}
		atMost(api.MaxHosts, sealed("SY1", several(n, "\x01?\x00")))
		atMost(api.MaxRules, sealed("SY1\x01\x01h", several(n, "?\x00\x01/\x00\x01\x01u\x01\x00\x00\x00\x00")))
		atMost(api.MaxMatches, changed(func(p *parts) { p.matches = several(n, "\x01?\x00") }))
		atMost(api.MaxMatches, changed(func(p *parts) { p.matches = several(n, "\x01a\x01\x01?") }))
		atMost(api.MaxEdits, changed(func(p *parts) { p.sets = several(n, "\x01?\x00") }))
		atMost(api.MaxEdits, changed(func(p *parts) { p.drops = several(n, "\x01?") }))
		atMost(api.MaxEdits, changed(func(p *parts) { p.sets, p.drops = several(3, "\x02s?\x00"), several(n, "\x02d?") }))
		if n > 0 {
			atMost(api.MaxTargets, changed(func(p *parts) { p.targets = several(n, "\x01?\x01\x00") }))
		}
	}
	isNotPacked(t, changed(func(p *parts) { p.targets = none }))
}

// several makes n of something, each with another small letter for the ?, and their number ahead.
func several(n int, thing string) string { return one(n) + times(n, thing) }

// As many as a byte can tell.
func TestUnpackOfFarMoreThanMayBe(t *testing.T) {
	isNotPacked(t, sealed("SY1\xff", strings.Repeat("\x01h\x00", 255)))
	isNotPacked(t, sealed("SY1\x01\x01h\xff", strings.Repeat(usual().bytes(), 255)))
	isNotPacked(t, changed(func(p *parts) { p.matches = "\xff" + strings.Repeat("\x01a\x00", 255) }))
	isNotPacked(t, changed(func(p *parts) { p.targets = "\xff" + strings.Repeat("\x01u\x01\x00", 255) }))
	isNotPacked(t, changed(func(p *parts) { p.sets = "\xff" + strings.Repeat("\x01a\x00", 255) }))
	isNotPacked(t, changed(func(p *parts) { p.drops = "\xff" + strings.Repeat("\x01a", 255) }))
	isNotPacked(t, sealed("SY1", strings.Repeat("\xff", 1<<20)))
	isNotPacked(t, sealed("SY1", strings.Repeat("\x00", 1<<20)))
}

func TestUnpackOfCountsThatAreWrong(t *testing.T) {
	for n := range 256 {
		if n != 1 {
			isNotPacked(t, sealed("SY1", one(n), text("h"), none))
			isNotPacked(t, sealed("SY1\x01\x01h", one(n), usual().bytes()))
			isNotPacked(t, changed(func(p *parts) { p.matches = one(n) + text("a") + none }))
			isNotPacked(t, changed(func(p *parts) { p.targets = one(n) + text("u") + two(1) }))
			isNotPacked(t, changed(func(p *parts) { p.sets = one(n) + text("a") + text("") }))
			isNotPacked(t, changed(func(p *parts) { p.drops = one(n) + text("a") }))
			isNotPacked(t, sealed("SY1\x01", one(n), "h", none))
		}
	}
}

func TestUnpackOfBytesOtherThanNoughtAndOne(t *testing.T) {
	isPacked(t, changed(func(p *parts) { p.matches = all(text("a") + one(1) + text("/")) }))
	isPacked(t, changed(func(p *parts) { p.replace = one(1) + text("/") }))
	for n := 2; n < 256; n++ {
		isNotPacked(t, changed(func(p *parts) { p.matches = all(text("a") + one(n)) }))
		isNotPacked(t, changed(func(p *parts) { p.matches = all(text("a") + one(n) + text("/")) }))
		isNotPacked(t, changed(func(p *parts) { p.replace = one(n) }))
		isNotPacked(t, changed(func(p *parts) { p.replace = one(n) + text("/") }))
	}
}

// places: where each kind of string stands, and which bytes may be in its middle.
func places() []place {
	headerBytes, valueBytes, pathBytes := small+digits+"-", printed("")+" ", printed("?#")
	return []place{
		{"h", headerBytes + ".", func(s string) []byte { return blobOfHosts(text(s) + none) }},
		{"/", pathBytes, func(s string) []byte { return changed(func(p *parts) { p.path = text(s) }) }},
		{"a", headerBytes, func(s string) []byte { return changed(func(p *parts) { p.matches = all(text(s) + none) }) }},
		{"v", valueBytes, func(s string) []byte {
			return changed(func(p *parts) { p.matches = all(text("a") + one(1) + text(s)) })
		}},
		{"u", headerBytes + ".:", func(s string) []byte { return changed(func(p *parts) { p.targets = all(text(s) + two(1)) }) }},
		{"/", pathBytes, func(s string) []byte { return changed(func(p *parts) { p.replace = one(1) + text(s) }) }},
		{"a", headerBytes, func(s string) []byte { return changed(func(p *parts) { p.sets = all(text(s) + text("")) }) }},
		{"v", valueBytes, func(s string) []byte { return changed(func(p *parts) { p.sets = all(text("a") + text(s)) }) }},
		{"a", headerBytes, func(s string) []byte { return changed(func(p *parts) { p.drops = all(text(s)) }) }},
	}
}

type place struct {
	first, within string
	blob          func(s string) []byte
}

// printed: the bytes 33 to 126, but the quote and these.
func printed(but string) string {
	out := ""
	for c := byte(33); c <= 126; c++ {
		if strings.IndexByte("\""+but, c) < 0 {
			out += string([]byte{c})
		}
	}
	return out
}

func TestUnpackOfEachByteInEachKindOfString(t *testing.T) {
	for _, at := range places() {
		for b := range 256 {
			c := string([]byte{byte(b)})
			blob := at.blob(at.first + c + "z")
			if strings.Contains(at.within, c) {
				isPacked(t, blob)
			} else {
				isNotPacked(t, blob)
			}
		}
	}
}

func TestUnpackOfStringsOfEachLength(t *testing.T) {
	for _, at := range places() {
		for n := 1; n < 256; n++ {
			blob := at.blob(at.first + strings.Repeat("a", n-1))
			if n <= api.MaxString {
				isPacked(t, blob)
			} else {
				isNotPacked(t, blob)
			}
		}
	}
}

func TestUnpackOfEmptyStrings(t *testing.T) {
	for _, at := range places() {
		if at.first == "v" {
			isPacked(t, at.blob(""))
		} else {
			isNotPacked(t, at.blob(""))
		}
	}
}

func TestUnpackOfStringsThatMayNotStandThere(t *testing.T) {
	for i, wrong := range [][]string{
		{"*.", "**", "*a", "a.*", "a..b", ".a", "a.", "*.*"},
		{"a", "a/", "//?", " /"},
		{"host", "content-length", "transfer-encoding"},
		{" ", " v", "v ", " v "},
		{" u", "u,v"},
		{"a", "a/", " /"},
		{"host", "content-length", "transfer-encoding"},
		{" ", " v", "v ", " v "},
		{"host", "content-length", "transfer-encoding"},
	} {
		for _, s := range wrong {
			isNotPacked(t, places()[i].blob(s))
		}
	}
}

// Strings that would bring further tokens, were they written into a text as they are.
func TestUnpackOfStringsThatCloseThemselves(t *testing.T) {
	isNotPacked(t, blobOfHosts(text(`a"{}host"b`)+none))
	isNotPacked(t, blobOfHosts(text("a\" {\n}\nhost \"b")+none))
	isNotPacked(t, changed(func(p *parts) { p.path = text(`/";header"a`) }))
	isNotPacked(t, changed(func(p *parts) { p.path = text("/\";\n    header \"a") }))
	isNotPacked(t, changed(func(p *parts) { p.matches = all(text(`a"="b`) + none) }))
	isNotPacked(t, changed(func(p *parts) { p.matches = all(text("a\" = \"b") + none) }))
	isNotPacked(t, changed(func(p *parts) { p.matches = all(text("a") + one(1) + text("b\";\n    header \"c")) }))
	isNotPacked(t, changed(func(p *parts) { p.targets = all(text(`u" 1, "v`) + two(1)) }))
	isNotPacked(t, changed(func(p *parts) { p.replace = one(1) + text("/\";\n    drop \"a") }))
	isNotPacked(t, changed(func(p *parts) { p.sets = all(text("a") + text("\";\n    drop \"b")) }))
	isNotPacked(t, changed(func(p *parts) { p.drops = all(text("a\";\n    drop \"b")) }))
}

// fullest makes the longest policy that there is, of its rules one by one: no text of the whole keeps to MaxText.
func fullest(t *testing.T) ([]byte, string) {
	t.Helper()
	blob, plain := "SY1"+one(api.MaxHosts), ""
	for host := range api.MaxHosts {
		name := one('a'+host) + strings.Repeat("z", api.MaxString-1)
		blob += text(name) + one(api.MaxRules)
		plain += lines(`host "` + name + `" {`)
		for i := range api.MaxRules {
			rule := inHost(fullRule("6553" + one('0'+i)))
			lines, _, _ := switchyard.Plain(rule)
			blob += strings.TrimPrefix(string(unsealed(packedOf(t, rule))), "SY1\x01\x01h\x01")
			plain += strings.TrimSuffix(strings.TrimPrefix(lines, "host \"h\" {\n"), "}\n")
		}
		plain += lines("}")
	}
	return sealed(blob), plain
}

// fullRule has as much of everything as may be, and its strings are as long as may be.
func fullRule(number string) string {
	rule := `rule ` + number + ` { path "/~~" ; ` +
		times(api.MaxMatches, `header "m?~" = "V?~"; `) +
		`to "u:~" 1000` + times(api.MaxTargets-1, `, "u?~" 1000`) + `; replace "/r~"; ` +
		times(api.MaxEdits, `set "s?~" = "W?~"; `) + times(api.MaxEdits, `drop "d?~"; `) + `}`
	return strings.ReplaceAll(strings.ReplaceAll(rule, "~~", strings.Repeat("p", api.MaxString-1)), "~", strings.Repeat("z", api.MaxString-2))
}

func TestUnpackIsNotBoundByMaxText(t *testing.T) {
	blob, plain := fullest(t)
	if len(plain) <= 4*api.MaxText {
		t.Fatalf("a plain form of %d bytes only", len(plain))
	}
	unpacks(t, blob, plain)
	ahead := unsealed(blob)
	isNotPacked(t, sealed(string(ahead[:len(ahead)-1])))
	isNotPacked(t, sealed(strings.Replace(string(ahead), two(65535), two(65529), 1)))
}

func TestUnpackOfAPlainFormAboveMaxText(t *testing.T) {
	plain, _, _ := switchyard.Plain(tight())
	if len(plain) <= api.MaxText {
		t.Fatalf("a plain form of %d bytes only", len(plain))
	}
	unpacks(t, packedOf(t, tight()), plain)
}
