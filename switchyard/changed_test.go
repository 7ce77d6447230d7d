package switchyard_test

import (
	"strconv"
	"strings"
	"testing"

	"switchyard/api"
)

// P12: what is sent to an upstream.

func itoa(n int) string { return strconv.Itoa(n) }

func TestReplace(t *testing.T) {
	for _, c := range []struct{ path, by, target, want string }{
		{"/x", "/", "/x", "/"}, {"/x", "/", "/xy", "/y"}, {"/x", "/", "/x/y", "//y"}, {"/x", "/y", "/x", "/y"}, {"/x", "/y", "/x/x?/x", "/y/x?/x"}, {"/x", "/y", "/xx", "/yx"}, {"/x", "/x/x", "/x/x", "/x/x/x"}, {"/x", "/x", "/x?q", "/x?q"},
		{"/", "/new", "/", "/new"}, {"/", "/new", "/old", "/newold"}, {"/", "/", "/a", "/a"}, {"/", "//", "/a?b", "//a?b"}, {"/", "/new/", "/?/", "/new/?/"}, {"/a/b/", "/", "/a/b/c?d=/a/b/", "/c?d=/a/b/"}, {"/a", "/b", "/a#/a\"", "/b#/a\""},
		{"/" + strings.Repeat("p", 23), "/" + strings.Repeat("r", 23), "/" + strings.Repeat("p", 30) + "?", "/" + strings.Repeat("r", 23) + strings.Repeat("p", 7) + "?"},
	} {
		y := yardOf(t, changing(c.path, `replace "`+c.by+`";`))
		becomes(t, y, get(c.target, "h"), "u", get(c.want, "h"))
		goesTo(t, yardOf(t, changing(c.path, "")), get(c.target, "h"), "u")
	}
}

func TestSet(t *testing.T) {
	y := yardOf(t, changing("/", `set "Via" = "Yard 1"; set "a" = "";`))
	for _, c := range []struct{ in, want []string }{
		{nil, []string{"via: Yard 1", "a: "}},
		{[]string{"b: 1"}, []string{"b: 1", "via: Yard 1", "a: "}},
		{[]string{"via: x"}, []string{"via: Yard 1", "a: "}},
		{[]string{"a: x"}, []string{"a: ", "via: Yard 1"}},
		{[]string{"a: x", "b: 1", "VIA: x", "c: 2"}, []string{"a: ", "b: 1", "via: Yard 1", "c: 2"}},
		{[]string{"b: 1", "via: x", "c: 2", "Via: y", "d: 3", "via: Yard 1"}, []string{"b: 1", "via: Yard 1", "c: 2", "d: 3", "a: "}},
		{[]string{"a: 1", "a: 2", "via: 3", "a: 4", "via: 5"}, []string{"a: ", "via: Yard 1"}},
		{[]string{"via-: 1", "vi: 2", "aa: 3"}, []string{"via-: 1", "vi: 2", "aa: 3", "via: Yard 1", "a: "}},
	} {
		becomes(t, y, get("/", "h", c.in...), "u", get("/", "h", c.want...))
	}
}

// Headers that are set stand behind all others in the order of the rule, not in that of their names.
func TestSetKeepsItsOrder(t *testing.T) {
	y := yardOf(t, changing("/", `set "z" = "1"; set "a" = "2"; set "m" = "3";`))
	becomes(t, y, get("/", "h", "n: 0"), "u", get("/", "h", "n: 0", "z: 1", "a: 2", "m: 3"))
	becomes(t, y, get("/", "h", "m: 0", "n: 0"), "u", get("/", "h", "m: 3", "n: 0", "z: 1", "a: 2"))
}

func TestDrop(t *testing.T) {
	y := yardOf(t, changing("/", `drop "Cookie"; drop "x";`))
	for _, c := range []struct{ in, want []string }{
		{nil, nil},
		{[]string{"cookie: 1"}, nil},
		{[]string{"a: 1", "COOKIE: 1", "b: 2", "x: 3", "cookie:", "X: 4", "c: 5"}, []string{"a: 1", "b: 2", "c: 5"}},
		{[]string{"cookies: 1", "xx: 2", "x-: 3"}, []string{"cookies: 1", "xx: 2", "x-: 3"}},
	} {
		becomes(t, y, get("/", "h", c.in...), "u", get("/", "h", c.want...))
	}
}

func TestSetAndDropAtOnce(t *testing.T) {
	y := yardOf(t, changing("/old", `replace "/"; set "a" = "1"; set "b" = "2"; set "c" = "3"; drop "d"; drop "e"; drop "f";`))
	becomes(t, y, get("/old", "h", "f: x", "c: x", "g: x", "d: x", "a: x", "e: x", "c: y"), "u", get("/", "h", "c: 3", "g: x", "a: 1", "b: 2"))
	becomes(t, y, get("/old", "h"), "u", get("/", "h", "a: 1", "b: 2", "c: 3"))
}

// A head of as many headers as may be is not bound any more when it is sent.
func TestWhatIsSetMayBeAboveTheBounds(t *testing.T) {
	y := yardOf(t, changing("/", `replace "/`+strings.Repeat("r", 23)+`"; set "x" = "1"; set "y" = "2"; set "z" = "3";`))
	eleven := twelve[:11]
	becomes(t, y, get("/", "h", eleven...), "u", get("/"+strings.Repeat("r", 23), "h", append(eleven[:11:11], "x: 1", "y: 2", "z: 3")...))
	head := get("/"+strings.Repeat("t", 600-len(get("/", "h"))), "h")
	if len(head) != 600 {
		t.Fatalf("a head of %d bytes", len(head))
	}
	out := strings.Replace(head, "/t", "/"+strings.Repeat("r", 23)+"t", 1)
	becomes(t, y, head, "u", out[:len(out)-2]+"x: 1\r\ny: 2\r\nz: 3\r\n\r\n")
}

// Rules ask for headers as they came in, and only those of the rule that counts are changed.
func TestOneRuleChangesARequest(t *testing.T) {
	y := yardOf(t, ofAll(
		`rule 1 { path "/x"; header "a" = "1"; to "u" 1; replace "/y"; set "a" = "2"; }`,
		`rule 2 { path "/y"; header "a" = "2"; to "v" 1; drop "a"; }`,
		`rule 3 { path "/"; to "w" 1; set "b" = "3"; }`))
	becomes(t, y, get("/x", "h", "a: 1"), "u", get("/y", "h", "a: 2"))
	becomes(t, y, get("/y", "h", "a: 2"), "v", get("/y", "h"))
	becomes(t, y, get("/x", "h", "a: 2"), "w", get("/x", "h", "a: 2", "b: 3"))
	becomes(t, y, get("/z", "h"), "w", get("/z", "h", "b: 3"))
}

// How a request is written that no rule changes.
func TestHowHeadersAreWritten(t *testing.T) {
	y := yardOf(t, allTo("u"))
	for _, c := range []struct{ in, want string }{
		{"X-Y:z", "x-y: z"}, {"x:   a  b  ", "x: a  b"}, {"x:", "x: "}, {"x:   ", "x: "}, {"X: ABC", "x: ABC"}, {"x: : a:b ", "x: : a:b"}, {"x: " + printable(33), "x: " + printable(33)}, {"-0-Z: 1", "-0-z: 1"}, {"Connection: Close", "connection: Close"}, {"x: host: A", "x: host: A"},
		{"Content-Length: 0", "content-length: 0"}, {"content-length:00000", "content-length: 0"}, {"CONTENT-LENGTH:   00  ", "content-length: 0"},
	} {
		becomes(t, y, get("/", "h", c.in), "u", get("/", "h", c.want))
	}
	for in, want := range map[string]string{"Host:A": "host: a", "HOST:   A.B-c.0:80  ": "host: a.b-c.0:80", "host: a:00080": "host: a:00080", "hOST:X:0": "host: x:0"} {
		becomes(t, y, crlf(first, in, ""), "u", crlf(first, want, ""))
	}
}

func TestHeadersKeepTheirOrder(t *testing.T) {
	y := yardOf(t, allTo("u"))
	becomes(t, y, crlf("POST /?B=C HTTP/1.1", "Z: 1", "Content-Length: 0002", "a: 2", "Host: H:8", "Z: 3", "A: 2", "")+"xy",
		"u", crlf("POST /?B=C HTTP/1.1", "z: 1", "content-length: 2", "a: 2", "host: h:8", "z: 3", "a: 2", "")+"xy")
	goesTo(t, y, get("/", "h", twelve[:11]...), "u")
}

func TestTheTargetStaysAsItIs(t *testing.T) {
	y := yardOf(t, allTo("u"))
	for _, target := range []string{"/", "//", "/A/../b", "/%41", "/?", "/??a", "/#x", "/" + printable(33), "/" + strings.Repeat("x", 560)} {
		goesTo(t, y, get(target, "h"), "u")
	}
}

// Bodies of each byte, of each length at the edges, and such as look like requests.
func TestBodiesAreSentAsTheyCame(t *testing.T) {
	all := make([]byte, 256)
	for i := range all {
		all[i] = byte(i)
	}
	y := yardOf(t, changing("/", `set "a" = "b";`))
	for _, body := range []string{"", "x", "\n", "\r\n\r\n", simple, get("/", "g") + "x", "a: 1\r\n", string(all), strings.Repeat("\xff", 299), strings.Repeat("\x00", 300)} {
		for _, noughts := range []string{"", "0", "00"} {
			length := noughts + itoa(len(body))
			head := crlf("PUT / HTTP/1.1", "host: h", "content-length: "+itoa(len(body)), "a: b", "")
			becomes(t, y, put("/", body, length), "u", head+body)
		}
	}
}

// Nothing is sent ahead of the last byte of the body, and all by it.
func TestRequestsWaitForTheBody(t *testing.T) {
	y := yardOf(t, allTo("u"))
	for _, size := range []int{0, 1, 2, 255, 256, 300} {
		stream := put("/", strings.Repeat("\n", size), itoa(size))
		for i := range len(stream) - 1 {
			feeds(t, y, 1, stream[i:i+1])
			sends(t, y)
		}
		feeds(t, y, 1, stream[len(stream)-1:])
		sends(t, y, onward(1, "u", stream))
	}
}

// With a policy all that is refused is refused as ever, and nothing of it goes anywhere.
func TestRefusedWithAPolicy(t *testing.T) {
	for _, c := range []struct{ stream, want string }{
		{"\n", api.Bad}, {begun(""), api.Bad}, {begun("host: *"), api.Bad}, {begun("host: a", "host: a"), api.Bad}, {begun("transfer-encoding:"), api.NotDone}, {begun("content-length: 301"), api.TooLarge}, {begun(twelve...) + crlf("host: a"), api.TooMuch}, {long(601), api.TooMuch},
	} {
		y := yardOf(t, allTo("u"))
		feeds(t, y, 1, simple+c.stream+simple)
		sends(t, y, onward(1, "u", simple), back(1, c.want))
		isNone(t, y, 1)
	}
}

// What was not sent of a request is gone with its connection.
func TestCloseInTheMidstOfARequest(t *testing.T) {
	stream := put("/", "abc", "3")
	for i := range len(stream) + 1 {
		y := yardWith(t, 2)
		pushes(t, y, allTo("u"))
		feeds(t, y, 2, simple+stream[:i])
		closes(t, y, 2)
		want := []api.Event{onward(2, "u", simple)}
		if i == len(stream) {
			want = append(want, onward(2, "u", stream))
		}
		sends(t, y, want...)
		isNone(t, y, 2)
		goesTo(t, y, stream, "u")
	}
}
