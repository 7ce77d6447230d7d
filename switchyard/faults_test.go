package switchyard_test

import (
	"strings"
	"testing"

	"switchyard/api"
)

// P4: faults of a text that is a policy.

func TestManyAtTheBounds(t *testing.T) {
	goesWell(t, times(api.MaxHosts, `host "?" {} `))
	goesWell(t, inHost(rules(api.MaxRules)))
	goesWell(t, times(api.MaxHosts, `host "?" {`+rules(api.MaxRules)+`} `))
	goesWell(t, inRule(times(api.MaxMatches, `header "?"; `)+`to "u" 1;`))
	goesWell(t, inRule(`to "u" 1`+times(api.MaxTargets-1, `, "?" 1`)+`;`))
	goesWell(t, behindTo(times(api.MaxEdits, `set "s?" = ""; `)+times(api.MaxEdits, `drop "d?"; `)))
}

func TestManyBeyondTheBounds(t *testing.T) {
	for _, marked := range []string{
		times(api.MaxHosts, `host "?" {} `) + `@host "x" {}`,
		times(api.MaxHosts, `host "?" {} `) + `@host "x" {} host "y" {}`,
		inHost(rules(api.MaxRules) + `@rule 9 { path "/"; to "u" 1; }`),
		`host "a" {} ` + inHost(rules(api.MaxRules)+`@rule 9 { path "/"; to "u" 1; }`),
		inRule(times(api.MaxMatches, `header "?"; `) + `@header "x"; to "u" 1;`),
		inRule(times(api.MaxMatches, `header "a" = "?"; `) + `@header "a" = "a"; to "u" 1;`),
		inRule(`to "u" 1` + times(api.MaxTargets-1, `, "?" 1`) + `, @"x" 1;`),
		behindTo(times(api.MaxEdits, `set "?" = ""; `) + `@set "x" = "";`),
		behindTo(times(api.MaxEdits, `drop "?"; `) + `@drop "x";`),
		behindTo(times(api.MaxEdits, `set "s?" = ""; `) + times(api.MaxEdits, `drop "d?"; `) + `@drop "x";`),
	} {
		faultAtMark(t, marked, api.ErrMany)
	}
}

func TestManyCountsTargetsOfTheWeightNought(t *testing.T) {
	goesWell(t, inRule(`to "u" 0, "u" 0, "u" 0, "u" 1;`))
	faultAtMark(t, inRule(`to "u" 0, "u" 0, "u" 0, "u" 1, @"u" 0;`), api.ErrMany)
	faultAtMark(t, inRule(`to "u" 0, "u" 0, "u" 0, "u" 0, @"u" 1;`), api.ErrMany)
}

func TestHostsThatMayBe(t *testing.T) {
	for _, host := range []string{"*", "*.a", "*.A.b", "a", "-", "0", "a-b.0-c.-", "Z", "host", strings.Repeat("a", api.MaxString)} {
		goesWell(t, `host "`+host+`" {}`)
	}
}

func TestHostsThatMayNotBe(t *testing.T) {
	for _, host := range []string{"", ".", "*.", "**", "*a", "*-a", "*..a", "*.*", "*.*.a", "*.a.", "a*", "a.*", "a..b", ".a", "a.", "a b", " a", "a ", "a_b", "a:80", "a/b", "\u212a", "\xc4", "\x00"} {
		faultAtMark(t, `host @"`+host+`" {}`, api.ErrValue)
	}
}

// eachByte tries every byte that a string may have, where ahead and behind stand in the string too.
func eachByte(t *testing.T, marked string, fits func(c byte) bool) {
	t.Helper()
	for b := range 256 {
		c := byte(b)
		if c == '"' || c == '\n' || c == '@' {
			continue
		}
		text := strings.Replace(marked, "?", string([]byte{c}), 1)
		if fits(c) {
			goesWell(t, strings.Replace(text, "@", "", 1))
			continue
		}
		faultAtMark(t, text, api.ErrValue)
	}
}

func among(bytes string) func(byte) bool {
	return func(c byte) bool { return strings.IndexByte(bytes, c) >= 0 }
}

const (
	small  = "abcdefghijklmnopqrstuvwxyz"
	large  = "ABCDEFGHIJKLMNOPQRSTUVWXYZ"
	digits = "0123456789"
)

func TestEachByteInEachKindOfString(t *testing.T) {
	path := func(c byte) bool { return c > ' ' && c < 0x7f && c != '?' && c != '#' }
	value := func(c byte) bool { return c >= ' ' && c < 0x7f }
	eachByte(t, `host @"a?a" {}`, among(small+large+digits+"-."))
	eachByte(t, `host @"?" {}`, among(small+large+digits+"-*"))
	eachByte(t, `host @"*.?" {}`, among(small+large+digits+"-"))
	eachByte(t, inHost(`rule 1 { path @"/?"; to "u" 1; }`), path)
	eachByte(t, behindTo(`replace @"/?";`), path)
	for _, header := range []string{`header @"?"; to "u" 1;`, `header @"a?b" = ""; to "u" 1;`, `to "u" 1; set @"?" = "";`, `to "u" 1; drop @"a?";`} {
		eachByte(t, inRule(header), among(small+large+digits+"-"))
	}
	eachByte(t, inRule(`header "a" = @"a?a"; to "u" 1;`), value)
	eachByte(t, behindTo(`set "a" = @"a?a";`), value)
	eachByte(t, inRule(`to @"?" 1;`), among(small+digits+".-:"))
	eachByte(t, inRule(`to @"a?" 1;`), among(small+digits+".-:"))
}

// The byte @ is the mark of the other tests.
func TestTheByteOfTheMark(t *testing.T) {
	goesWell(t, inHost(`rule 1 { path "/@"; to "u" 1; }`))
	goesWell(t, behindTo(`replace "/@"; set "a" = "@";`))
	faultIs(t, `host "a@" {}`, api.ErrValue, 5)
	faultIs(t, inRule(`to "u@" 1;`), api.ErrValue, len(`host "h" { rule 1 { path "/"; to `))
}

func TestPathsThatMayNotBe(t *testing.T) {
	for _, path := range []string{"", "x", "x/", " /", "//?", "/a#", "/a b", "/ ", "*"} {
		faultAtMark(t, inHost(`rule 1 { path @"`+path+`"; to "u" 1; }`), api.ErrValue)
		faultAtMark(t, behindTo(`replace @"`+path+`";`), api.ErrValue)
	}
}

func TestHeadersThatMayNotBe(t *testing.T) {
	for _, header := range []string{"", "host", "HOST", "hosT", "content-length", "Content-Length", "transfer-encoding", "TRANSFER-ENCODING", "a.b", "a ", " a"} {
		faultAtMark(t, inRule(`header @"`+header+`"; to "u" 1;`), api.ErrValue)
		faultAtMark(t, inRule(`header @"`+header+`" = "x"; to "u" 1;`), api.ErrValue)
		faultAtMark(t, behindTo(`set @"`+header+`" = "x";`), api.ErrValue)
		faultAtMark(t, behindTo(`drop @"`+header+`";`), api.ErrValue)
	}
	goesWell(t, inRule(`header "hosts"; header "content-lengt"; to "u" 1; set "x-host" = ""; drop "transferencoding";`))
}

func TestValuesThatMayNotBe(t *testing.T) {
	for _, value := range []string{" ", "  ", " a", "a ", " a "} {
		faultAtMark(t, inRule(`header "a" = @"`+value+`"; to "u" 1;`), api.ErrValue)
		faultAtMark(t, behindTo(`set "a" = @"`+value+`";`), api.ErrValue)
	}
	goesWell(t, behindTo(`set "a" = "a  b"; set "b" = "";`))
}

func TestUpstreamsThatMayNotBe(t *testing.T) {
	faultAtMark(t, inRule(`to @"" 1;`), api.ErrValue)
	faultAtMark(t, inRule(`to "u" 1, @"" 0;`), api.ErrValue)
	goesWell(t, inRule(`to ".:-" 1;`))
}

func TestNumbersAtTheBounds(t *testing.T) {
	goesWell(t, inHost(`rule 65535 { path "/"; to "u" 1000; } rule 0 { path "/"; to "u" 01000; }`))
	faultAtMark(t, inHost(`rule @65536 { path "/"; to "u" 1; }`), api.ErrValue)
	faultAtMark(t, inHost(`rule @99999 { path "/"; to "u" 1; }`), api.ErrValue)
	faultAtMark(t, inRule(`to "u" @1001;`), api.ErrValue)
	faultAtMark(t, inRule(`to "u" 0, "u" @01001;`), api.ErrValue)
	faultAtMark(t, inRule(`to "u" @65536;`), api.ErrValue)
}

func TestWeightsThatAreAllNought(t *testing.T) {
	for _, targets := range []string{`"u" 0`, `"u" 00000`, `"u" 0, "v" 0`, `"u" 0, "v" 0, "w" 0, "x" 0`} {
		faultAtMark(t, inRule(`@to `+targets+`;`), api.ErrValue)
		faultAtMark(t, inRule(`header "a"; @to `+targets+`; drop "b";`), api.ErrValue)
	}
}

// A to stands ahead of what is behind it, though its fault shows but at its end.
func TestWeightsThatAreAllNoughtGoAheadOfTheirTargets(t *testing.T) {
	faultAtMark(t, inRule(`@to "U" 0, "" 0;`), api.ErrValue)
	faultAtMark(t, inRule(`@to "u" 0, "u" 0, "u" 0, "u" 0, "u" 0;`), api.ErrValue)
	faultAtMark(t, inRule(`header @"" ; to "u" 0;`), api.ErrValue)
	faultAtMark(t, inRule(times(api.MaxMatches, `header "?"; `)+`@header ""; to "u" 0;`), api.ErrMany)
}

func TestTwice(t *testing.T) {
	for _, marked := range []string{
		`host "a" { } host @"A" { }`,
		`host "*" {} host "a" {} host @"*" {}`,
		`host "*.A" {} host "a" {} host @"*.a" {}`,
		inHost(`rule 1 { path "/"; to "u" 1; } rule 2 { path "/"; to "u" 1; } rule @1 { path "/"; to "u" 1; }`),
		inHost(`rule 0 { path "/"; to "u" 1; } rule @00000 { path "/"; to "u" 1; }`),
		behindTo(`set "a" = ""; set "b" = ""; set @"A" = "";`),
		behindTo(`drop "X-a"; drop @"x-A";`),
		behindTo(`set "a" = "1"; set "b" = "2"; drop "c"; drop @"b";`),
	} {
		faultAtMark(t, marked, api.ErrTwice)
	}
}

func TestWhatMayBeTwice(t *testing.T) {
	rule := `{ path "/"; header "a"; header "a"; to "u" 1, "u" 1; set "a" = "x"; drop "b"; }`
	goesWell(t, `host "a" { rule 1 `+rule+` rule 2 `+rule+` } host "*.a" { rule 1 `+rule+` }`)
}

func TestTheFirstFaultByItsPlace(t *testing.T) {
	faultAtMark(t, `host @"" { rule 70000 { path ""; to "" 0; } } host "" {}`, api.ErrValue)
	faultAtMark(t, `host "a" {} host @"a" { rule 70000 { path ""; to "" 0; } }`, api.ErrTwice)
	faultAtMark(t, `host "a" { rule @70000 { path "/"; to "u" 1; } } host "a" {}`, api.ErrValue)
	faultAtMark(t, inHost(`rule 1 { path "/"; to "u" 1; set "a" = @" "; } rule 1 { path "/"; to "u" 1; }`), api.ErrValue)
	faultAtMark(t, inHost(`rule 1 { path "/"; to "u" 1; } rule @1 { path ""; to "u" 0; }`), api.ErrTwice)
	faultAtMark(t, inRule(`to "u" 1, "u" 1, "u" 1, "u" @1001, "" 1;`), api.ErrValue)
	faultAtMark(t, behindTo(times(api.MaxEdits, `set "?" = ""; `)+`@set "a" = " ";`), api.ErrMany)
	faultAtMark(t, behindTo(times(api.MaxEdits, `set "?" = ""; `)+`drop @"a"; drop "d"; drop "e"; drop "f";`), api.ErrTwice)
	faultAtMark(t, times(api.MaxHosts, `host "?" {} `)+`@host "a" { rule 99999 { path "/"; to "u" 0; } }`, api.ErrMany)
	faultAtMark(t, inHost(rules(api.MaxRules)+`@rule 1 { path ""; to "u" 1; }`), api.ErrMany)
}

func TestAtOnePlaceTheErrorNamedFirst(t *testing.T) {
	faultAtMark(t, inRule(`to "u" 1, "u" 1, "u" 1, "u" 1, @"" 1;`), api.ErrMany)
	faultAtMark(t, inRule(`to "u" 1, "u" 1, "u" 1, "u" 1, @"U" 1001;`), api.ErrMany)
}

func TestTextThatIsNoPolicyGoesAheadOfAllOtherFaults(t *testing.T) {
	faulty := []string{
		times(api.MaxHosts+1, `host "?" {} `),
		inHost(rules(api.MaxRules + 1)),
		`host "" {} `,
		inRule(`to "u" 0;`),
		inHost(`rule 65536 { path "x"; header ""; to "U" 1001; replace "x"; set "" = " "; drop ""; }`),
		`host "a" {} host "a" {} `,
		behindTo(`set "a" = ""; drop "a";`),
	}
	for _, text := range faulty {
		faultIs(t, text+"?", api.ErrText, len(text))
		faultIs(t, text+" host", api.ErrText, len(text)+5)
		faultIs(t, "} "+text, api.ErrText, 0)
		faultIs(t, text[:strings.LastIndex(text, "}")], api.ErrText, strings.LastIndex(text, "}"))
	}
	faultAtMark(t, inRule(`to "u" 0 @}`), api.ErrText)
	faultAtMark(t, `host "" @123456 {}`, api.ErrText)
}
