package switchyard_test

import (
	"strings"
	"testing"

	"switchyard/api"
)

// P3: texts that are too long, or no policy.

func TestTextOfMaxText(t *testing.T) {
	host := `host "h" {}`
	plain := lines(`host "h" {`, `}`)
	plainIs(t, host+strings.Repeat(" ", api.MaxText-len(host)), plain)
	plainIs(t, strings.Repeat("\n", api.MaxText-len(host))+host, plain)
	faultIs(t, strings.Repeat(" ", api.MaxText-1)+"}", api.ErrText, api.MaxText-1)
	faultIs(t, strings.Repeat(" ", api.MaxText-4)+"host", api.ErrText, api.MaxText)
}

func TestTextAboveMaxText(t *testing.T) {
	for _, begin := range []string{"", `host "h" {}`, "}", "\x00", `host "" {}`, `host "a" {} host "a" {}`} {
		faultIs(t, begin+strings.Repeat(" ", api.MaxText+1-len(begin)), api.ErrLong, 0)
	}
	faultIs(t, strings.Repeat("x", 10*api.MaxText), api.ErrLong, 0)
}

func TestBytesThatBeginNoToken(t *testing.T) {
	for b := range 256 {
		c := string([]byte{byte(b)})
		if c == " " || c == "\n" {
			plainIs(t, `host`+c+`"h"`+c+`{}`, lines(`host "h" {`, `}`))
			continue
		}
		faultIs(t, c, api.ErrText, 0)
		faultIs(t, `host "h" {} `+c, api.ErrText, 12)
		faultIs(t, ` `+c+`host "h" {}`, api.ErrText, 1)
		if c != `"` {
			faultIs(t, `host`+c+`"h" {}`, api.ErrText, wordEnd("host"+c))
		}
	}
}

// wordEnd: a letter that follows a word is of it.
func wordEnd(s string) int {
	if last := s[len(s)-1]; 'a' <= last && last <= 'z' {
		return 0
	}
	return len(s) - 1
}

func TestWrongTokens(t *testing.T) {
	long := strings.Repeat("a", api.MaxString)
	for _, marked := range []string{
		inHost(`rule @000001 { path "/"; to "u" 1; }`),
		inRule(`to "u" @100000;`),
		inRule(`to "u" @` + strings.Repeat("1", 1000) + `;`),
		`host @"` + long + `a" {}`,
		`host @"` + long,
		`host @"a`,
		`host @"`,
		`host "h" { rule 1 { path @"/; } }`,
		"host @\"a\nb\" {}",
		"host @\"\n\" {}",
		"host @\"a\n",
		`host "h" {} @"`,
		`host "h" {@"`,
		inRule(`header "` + long + `"; header @"` + long + `a";`),
		inHost(`rule @-1 {}`),
		inHost(`rule 1@.0 {}`),
		`@HOST "h" {}`,
		"@\xef\xbb\xbfhost \"h\" {}",
		`host @'h' {}`,
		"host @\xa0\"h\" {}",
		"host@\r\n \"h\" {}",
		`@# host "h" {}`,
	} {
		faultAtMark(t, marked, api.ErrText)
	}
}

func TestLongestTokens(t *testing.T) {
	long := strings.Repeat("a", api.MaxString)
	plainIs(t, `host "`+long+`" {}`, lines(`host "`+long+`" {`, `}`))
	goesWell(t, inHost(`rule 00001 { path "/`+long[1:]+`"; to "`+long+`" 00001; }`))
}

// A string may have all bytes but a quote and a newline: then it is its value that is wrong.
func TestStringsOfAnyBytes(t *testing.T) {
	for b := range 256 {
		if b == '"' || b == '\n' {
			continue
		}
		text := inHost(`rule 1 { path "` + string([]byte{byte(b)}) + `x"; to "u" 1; }`)
		if b == '/' {
			goesWell(t, text)
			continue
		}
		faultIs(t, text, api.ErrValue, strings.Index(text, "path")+5)
	}
}

func TestTokensNeedNothingBetween(t *testing.T) {
	goesWell(t, `host"h"{rule1{path"/";to"u"1;}}`)
	faultAtMark(t, `@hosthost "h" {}`, api.ErrText)
	faultAtMark(t, inHost(`rule 1@to { path "/"; }`), api.ErrText)
	faultAtMark(t, inHost(`rule 1 @2 { path "/"; }`), api.ErrText)
}

// The first fault counts, whichever of the two kinds it is of.
func TestTheFirstWrongOrUnfitToken(t *testing.T) {
	faultAtMark(t, `host @{ ? `, api.ErrText)
	faultAtMark(t, `host @? { `, api.ErrText)
	faultAtMark(t, `host "h" @"`, api.ErrText)
	faultAtMark(t, `host "h" @} 123456`, api.ErrText)
}

// grammar is the document's, as an automaton: from each place the tokens with which a policy goes on.
var grammar = map[string]map[string]string{
	"policy":        {"host": "host", "END": ""},
	"host":          {"STRING": "hostName"},
	"hostName":      {"{": "rules"},
	"rules":         {"rule": "rule", "}": "policy"},
	"rule":          {"NUMBER": "ruleNumber"},
	"ruleNumber":    {"{": "ruleOpen"},
	"ruleOpen":      {"path": "path"},
	"path":          {"STRING": "pathString"},
	"pathString":    {";": "matches"},
	"matches":       {"header": "header", "to": "to"},
	"header":        {"STRING": "headerName"},
	"headerName":    {"=": "headerIs", ";": "matches"},
	"headerIs":      {"STRING": "headerValue"},
	"headerValue":   {";": "matches"},
	"to":            {"STRING": "upstream"},
	"upstream":      {"NUMBER": "weight"},
	"weight":        {",": "to", ";": "targets"},
	"targets":       {"replace": "replace", "set": "set", "drop": "drop", "}": "rules"},
	"replace":       {"STRING": "replaceString"},
	"replaceString": {";": "sets"},
	"sets":          {"set": "set", "drop": "drop", "}": "rules"},
	"set":           {"STRING": "setName"},
	"setName":       {"=": "setIs"},
	"setIs":         {"STRING": "setValue"},
	"setValue":      {";": "sets"},
	"drop":          {"STRING": "dropName"},
	"dropName":      {";": "drops"},
	"drops":         {"drop": "drop", "}": "rules"},
}

// ways finds, for each place of the grammar, a text that leads there.
func ways() map[string]string {
	texts := map[string]string{"policy": ""}
	for queue := []string{"policy"}; len(queue) > 0; queue = queue[1:] {
		for token, next := range grammar[queue[0]] {
			if _, known := texts[next]; !known && next != "" {
				texts[next] = texts[queue[0]] + " " + spelled(token)
				queue = append(queue, next)
			}
		}
	}
	return texts
}

func spelled(token string) string {
	switch token {
	case "STRING":
		return `"/"`
	case "NUMBER":
		return "1"
	case "END":
		return ""
	}
	return token
}

func TestEachTokenAtEachPlaceOfTheGrammar(t *testing.T) {
	tokens := []string{"host", "rule", "path", "header", "to", "replace", "set", "drop", "x", "STRING", "NUMBER",
		"{", "}", ";", "=", ",", "\"", "?", "123456", "\t", "(", "END"}
	texts := ways()
	if len(texts) != len(grammar) {
		t.Fatalf("%d of %d places are reached", len(texts), len(grammar))
	}
	for state, follow := range grammar {
		for _, token := range tokens {
			if _, fits := follow[token]; fits {
				continue
			}
			text := texts[state] + " \n"
			faultIs(t, text+spelled(token), api.ErrText, len(text))
			if token != "END" {
				faultIs(t, text+spelled(token)+" }", api.ErrText, len(text))
			}
		}
	}
}

// Where a token fits, the fault is further on: the text ends too soon.
func TestTextThatEndsTooSoonAtEachPlaceOfTheGrammar(t *testing.T) {
	texts := ways()
	for state, follow := range grammar {
		for token, next := range follow {
			if next == "" || next == "policy" {
				continue
			}
			text := texts[state] + spelled(token)
			faultIs(t, text, api.ErrText, len(text))
			faultIs(t, text+" \n ", api.ErrText, len(text)+3)
		}
	}
}

func TestEveryBeginningOfAPolicy(t *testing.T) {
	for n := 1; n < len(whole)-1; n++ {
		text := whole[:n]
		place := n
		if tail := unfinished(text); tail >= 0 {
			place = tail
		}
		faultIs(t, text, api.ErrText, place)
	}
}

// unfinished tells where a string without its end or a piece of a word begins, or -1.
func unfinished(text string) int {
	if strings.Count(text, `"`)%2 == 1 {
		return strings.LastIndex(text, `"`)
	}
	begin := len(text)
	for begin > 0 && 'a' <= text[begin-1] && text[begin-1] <= 'z' {
		begin--
	}
	switch text[begin:] {
	case "", "host", "rule", "path", "header", "to", "replace", "set", "drop":
		return -1
	}
	return begin
}
