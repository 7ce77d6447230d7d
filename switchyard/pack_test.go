package switchyard_test

import (
	"bytes"
	"strings"
	"testing"

	"switchyard/api"
	"switchyard/switchyard"
)

// P6: packed policies. (That Pack answers errors as Plain does, the tests of P3 and P4 hold by faultIs.)

func TestPackOfNothing(t *testing.T) {
	want := []byte("SY1\x00\xdd\x6d\xcc\x5d")
	if !bytes.Equal(want, sealed("SY1\x00")) {
		t.Fatalf("the sum is %q", sealed("SY1\x00"))
	}
	for _, text := range []string{"", " ", "\n \n", strings.Repeat(" ", api.MaxText)} {
		packsTo(t, text, want)
	}
}

func TestPackOfTheExample(t *testing.T) {
	packsTo(t, `host "A.b"{rule 7{path"/";to"u"1,"v"0;}}`,
		sealed("SY1\x01\x03a.b\x01\x07\x00\x01/\x00\x01\x01u\x01\x00\x00\x00\x00"))
}

func TestPackOfTheWholeRule(t *testing.T) {
	want := sealed("SY1\x01\x05*.a.b\x01\x0a\x00\x02/x",
		"\x02\x04x-id\x00\x05x-env\x01\x04test",
		"\x02\x05u1:80\x03\x00\x02u2\x01\x00",
		"\x01\x02/y",
		"\x01\x05x-via\x04yard",
		"\x01\x04x-id")
	packsTo(t, whole, want)
	packsTo(t, `host"*.A.B"{rule 00010{path"/x";header"X-Id";header"X-ENV"="test";to"u1:80"3,"u2"01;replace"/y";set"X-Via"="yard";drop"X-ID";}}`, want)
}

func TestPackOfHostsWithoutRules(t *testing.T) {
	packsTo(t, `host "*" { }`, sealed("SY1\x01\x01*\x00"))
	packsTo(t, `host "a" { } host "b" { }`, sealed("SY1\x02\x01a\x00\x01b\x00"))
}

func TestPackSortsHosts(t *testing.T) {
	packsTo(t, `host "b"{} host "AB"{} host "*.a"{} host "a"{}`, sealed("SY1\x04\x03*.a\x00\x01a\x00\x02ab\x00\x01b\x00"))
}

func TestPackSortsRules(t *testing.T) {
	text := inHost(`rule 256{path"/";to"u"1;} rule 3{path"/";to"u"1;} rule 20{path"/";to"u"1;}`) + ` host "a"{rule 9{path"/";to"u"1;}rule 8{path"/";to"u"1;}}`
	packsTo(t, text, blobOfHosts(
		"\x01a\x02"+numbered(8)+numbered(9),
		"\x01h\x03"+numbered(3)+numbered(20)+numbered(256)))
}

func TestPackKeepsTheOrderWithinARule(t *testing.T) {
	text := inHost(`rule 5 { path "/"; header "Z"="B"; header "A"; header "z"; to "v" 2, "u" 1, "v" 1; set "Q"="Z"; set "P"="A"; drop "N"; drop "M"; }`)
	packsTo(t, text, changed(func(p *parts) {
		p.matches = "\x03\x01z\x01\x01B\x01a\x00\x01z\x00"
		p.targets = "\x03\x01v\x02\x00\x01u\x01\x00\x01v\x01\x00"
		p.sets = "\x02\x01q\x01Z\x01p\x01A"
		p.drops = "\x02\x01n\x01m"
	}))
}

func TestPackOfLargeLetters(t *testing.T) {
	text := inHost(`rule 5 { path "/Ab"; header "Hh" = "Vw"; to "u" 1; replace "/Cd"; set "Ss" = "Xy"; drop "Dd"; }`)
	packsTo(t, strings.Replace(text, `"h"`, `"H"`, 1), changed(func(p *parts) {
		p.path = "\x03/Ab"
		p.matches = "\x01\x02hh\x01\x02Vw"
		p.replace = "\x01\x03/Cd"
		p.sets = "\x01\x02ss\x02Xy"
		p.drops = "\x01\x02dd"
	}))
}

func TestPackTellsAnEmptyValueFromNone(t *testing.T) {
	packsTo(t, inHost(`rule 5 { path "/"; header "a"=""; header "b"; to "u" 1; set "c"=""; }`), changed(func(p *parts) {
		p.matches = "\x02\x01a\x01\x00\x01b\x00"
		p.sets = "\x01\x01c\x00"
	}))
}

func TestPackLeavesOutTargetsOfTheWeightNought(t *testing.T) {
	packsTo(t, inHost(`rule 5 { path "/"; to "a" 0, "b" 2, "c" 00, "d" 1; }`), changed(func(p *parts) {
		p.targets = "\x02\x01b\x02\x00\x01d\x01\x00"
	}))
}

func TestPackOfNumbersOfOneByteAndOfTwo(t *testing.T) {
	for number, want := range map[string]string{
		"0": "\x00\x00", "00001": "\x01\x00", "34": "\x22\x00", "255": "\xff\x00", "256": "\x00\x01", "257": "\x01\x01", "4660": "\x34\x12", "65280": "\x00\xff", "65535": "\xff\xff",
	} {
		packsTo(t, inHost("rule "+number+` { path "/"; to "u" 1; }`), changed(func(p *parts) { p.number = want }))
	}
}

func TestPackOfWeightsOfOneByteAndOfTwo(t *testing.T) {
	for weight, want := range map[string]string{
		"1": "\x01\x00", "0034": "\x22\x00", "255": "\xff\x00", "256": "\x00\x01", "257": "\x01\x01", "768": "\x00\x03", "1000": "\xe8\x03",
	} {
		packsTo(t, inHost(`rule 5 { path "/"; to "u" `+weight+`; }`), changed(func(p *parts) { p.targets = "\x01\x01u" + want }))
	}
}

func TestPackOfTheLongestStrings(t *testing.T) {
	name := strings.Repeat("a", api.MaxString)
	path := "/" + name[1:]
	packsTo(t, `host "`+name+`" { rule 5 { path "`+path+`"; header "`+name+`" = "`+name+`"; to "`+name+`" 1; replace "`+path+`"; set "`+name+`" = "`+name+`"; } }`,
		blobOfHosts("\x18"+name+"\x01"+parts{
			number:  "\x05\x00",
			path:    "\x18" + path,
			matches: "\x01\x18" + name + "\x01\x18" + name,
			targets: "\x01\x18" + name + "\x01\x00",
			replace: "\x01\x18" + path,
			sets:    "\x01\x18" + name + "\x18" + name,
			drops:   none,
		}.bytes()))
}

func TestPackOfATextThatIsTooLong(t *testing.T) {
	packsTo(t, strings.Repeat(" ", api.MaxText-12)+`host "h" { }`, sealed("SY1\x01\x01h\x00"))
	faultIs(t, strings.Repeat(" ", api.MaxText-11)+`host "h" { }`, api.ErrLong, 0)
}

func TestPackOfFaults(t *testing.T) {
	for _, fault := range []struct {
		marked string
		err    api.Errno
	}{
		{`host "a" { @`, api.ErrText},
		{`host "a" { } @?`, api.ErrText},
		{times(api.MaxHosts, `host "?" {} `) + `@host "x" {}`, api.ErrMany},
		{`host @"" { }`, api.ErrValue},
		{inRule(`@to "u" 0;`), api.ErrValue},
		{`host "a" { } host @"A" { }`, api.ErrTwice},
	} {
		before, behind, _ := strings.Cut(fault.marked, "@")
		blob, err, at := switchyard.Pack(before + behind)
		if len(blob) != 0 || err != fault.err || at != len(before) {
			t.Errorf("Pack(%q) = %q, error %d at %d, want error %d at %d", before+behind, blob, err, at, fault.err, len(before))
		}
	}
}
