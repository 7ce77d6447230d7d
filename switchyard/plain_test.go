package switchyard_test

import (
	"strings"
	"testing"

	"switchyard/api"
	"switchyard/switchyard"
)

// P5: the plain form.

const whole = `host "*.a.b" {
  rule 10 {
    path "/x";
    header "x-id";
    header "x-env" = "test";
    to "u1:80" 3, "u2" 1;
    replace "/y";
    set "x-via" = "yard";
    drop "x-id";
  }
}
`

func TestPlainOfTheWholeRule(t *testing.T) {
	plainIs(t, whole, whole)
	plainIs(t, `host"*.A.B"{rule 00010{path"/x";header"X-Id";header"X-ENV"="test";to"u1:80"3,"u2"01;replace"/y";set"X-Via"="yard";drop"X-ID";}}`, whole)
	plainIs(t, strings.ReplaceAll(whole, " ", "\n"), whole)
}

func TestPlainOfTheExample(t *testing.T) {
	plainIs(t, `host "A.b"{rule 7{path"/";to"u"1,"v"0;}}`, lines(
		`host "a.b" {`,
		`  rule 7 {`,
		`    path "/";`,
		`    to "u" 1;`,
		`  }`,
		`}`))
}

func TestPlainOfNothing(t *testing.T) {
	for _, text := range []string{"", " ", "\n", " \n\n  \n ", strings.Repeat("\n", api.MaxText)} {
		plainIs(t, text, "")
	}
}

func TestPlainOfHostsWithoutRules(t *testing.T) {
	plainIs(t, `host "a" { }`, lines(`host "a" {`, `}`))
	plainIs(t, `host "B"{}host "a"{}`, lines(`host "a" {`, `}`, `host "b" {`, `}`))
}

func TestPlainSortsHostsByTheirSmallLetters(t *testing.T) {
	plainIs(t, `host "b"{} host "AB"{} host "a.b"{} host "a"{}`,
		lines(`host "a" {`, `}`, `host "a.b" {`, `}`, `host "ab" {`, `}`, `host "b" {`, `}`))
	plainIs(t, `host "0"{} host "-"{} host "*.Z"{} host "*"{}`,
		lines(`host "*" {`, `}`, `host "*.z" {`, `}`, `host "-" {`, `}`, `host "0" {`, `}`))
	plainIs(t, `host "a.b"{} host "a0"{} host "a-b"{} host "A"{}`,
		lines(`host "a" {`, `}`, `host "a-b" {`, `}`, `host "a.b" {`, `}`, `host "a0" {`, `}`))
}

func TestPlainSortsRulesByTheirNumbers(t *testing.T) {
	text := inHost(`rule 100{path"/c";to"w"1;} rule 00020{path"/b";to"v"1;} rule 0{path"/z";to"y"1;} rule 3{path"/a";to"u"1;}`)
	plainIs(t, text, lines(
		`host "h" {`,
		`  rule 0 {`, `    path "/z";`, `    to "y" 1;`, `  }`,
		`  rule 3 {`, `    path "/a";`, `    to "u" 1;`, `  }`,
		`  rule 20 {`, `    path "/b";`, `    to "v" 1;`, `  }`,
		`  rule 100 {`, `    path "/c";`, `    to "w" 1;`, `  }`,
		`}`))
}

func TestPlainKeepsEachHostsOwnRules(t *testing.T) {
	plainIs(t, `host "b"{rule 1{path"/1";to"u"1;}} host "a"{rule 1{path"/3";to"v"1;}rule 0{path"/2";to"u"1;}}`, lines(
		`host "a" {`,
		`  rule 0 {`, `    path "/2";`, `    to "u" 1;`, `  }`,
		`  rule 1 {`, `    path "/3";`, `    to "v" 1;`, `  }`,
		`}`,
		`host "b" {`,
		`  rule 1 {`, `    path "/1";`, `    to "u" 1;`, `  }`,
		`}`))
}

func TestPlainKeepsTheOrderWithinARule(t *testing.T) {
	text := inRule(`header "Z"="B"; header "A"; header "z"; to "v" 2, "u" 1, "v" 1; set "Q"="Z"; set "P"="A"; drop "N"; drop "M";`)
	plainIs(t, text, lines(
		`host "h" {`,
		`  rule 1 {`,
		`    path "/";`,
		`    header "z" = "B";`,
		`    header "a";`,
		`    header "z";`,
		`    to "v" 2, "u" 1, "v" 1;`,
		`    set "q" = "Z";`,
		`    set "p" = "A";`,
		`    drop "n";`,
		`    drop "m";`,
		`  }`,
		`}`))
}

func TestPlainKeepsLargeLettersWhereTheyMeanThemselves(t *testing.T) {
	text := inHost(`rule 1 { path "/Ab"; header "H" = "Vw"; to "u" 1; replace "/Cd"; set "S" = "Xy"; }`)
	plainIs(t, text, lines(
		`host "h" {`,
		`  rule 1 {`,
		`    path "/Ab";`,
		`    header "h" = "Vw";`,
		`    to "u" 1;`,
		`    replace "/Cd";`,
		`    set "s" = "Xy";`,
		`  }`,
		`}`))
}

func TestPlainKeepsEmptyValues(t *testing.T) {
	plainIs(t, inRule(`header "a"=""; header "b"; to "u" 1; set "c"="";`), lines(
		`host "h" {`,
		`  rule 1 {`,
		`    path "/";`,
		`    header "a" = "";`,
		`    header "b";`,
		`    to "u" 1;`,
		`    set "c" = "";`,
		`  }`,
		`}`))
}

func TestPlainLeavesOutTargetsOfTheWeightNought(t *testing.T) {
	for to, want := range map[string]string{
		`"a" 0, "b" 1`:                   `"b" 1`,
		`"a" 1, "b" 00000`:               `"a" 1`,
		`"a" 0, "b" 2, "c" 0, "d" 01000`: `"b" 2, "d" 1000`,
		`"a" 1, "a" 0, "a" 00003`:        `"a" 1, "a" 3`,
	} {
		plainIs(t, inRule("to "+to+";"), lines(`host "h" {`, `  rule 1 {`, `    path "/";`, `    to `+want+`;`, `  }`, `}`))
	}
}

func TestPlainWritesNumbersWithoutNoughtsAhead(t *testing.T) {
	for number, want := range map[string]string{"0": "0", "00000": "0", "007": "7", "00100": "100", "65535": "65535"} {
		plainIs(t, inHost("rule "+number+` { path "/"; to "u" 1; }`),
			lines(`host "h" {`, `  rule `+want+` {`, `    path "/";`, `    to "u" 1;`, `  }`, `}`))
	}
}

// tight keeps to MaxText, but its plain form does not.
func tight() string {
	text := ""
	for _, host := range []string{"a", "b", "c", "d"} {
		text += `host"` + host + `"{`
		for _, number := range []string{"1", "2", "3", "4", "5", "6"} {
			text += "rule " + number + `{path"/";header"a";header"b";header"c";to"u"1,"u"1,"u"1,"u"1;drop"a";drop"b";}`
		}
		text += "}"
	}
	return text
}

func TestPlainIsNotBoundByMaxText(t *testing.T) {
	got, err, _ := switchyard.Plain(tight())
	if err != api.OK || len(got) <= api.MaxText {
		t.Fatalf("error %d, plain form of %d bytes", err, len(got))
	}
	if strings.Count(got, "    to \"u\" 1, \"u\" 1, \"u\" 1, \"u\" 1;\n") != 24 {
		t.Errorf("not all 24 rules in %q", got)
	}
}
