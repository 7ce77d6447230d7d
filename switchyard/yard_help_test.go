package switchyard_test

import (
	"slices"
	"strings"
	"testing"

	"switchyard/api"
	"switchyard/switchyard"
)

// yardWith makes a yard with the connections 1 to n.
func yardWith(t *testing.T, n int) *switchyard.Yard {
	t.Helper()
	y := switchyard.New()
	if y == nil {
		t.Fatal("New() = nil")
	}
	for i := range n {
		opens(t, y, i+1)
	}
	return y
}

func opens(t *testing.T, y *switchyard.Yard, want int) {
	t.Helper()
	if got, err := y.Open(); got != want || err != api.OK {
		t.Fatalf("Open() = %d, %d, want the connection %d", got, err, want)
	}
}

func opensNone(t *testing.T, y *switchyard.Yard) {
	t.Helper()
	if got, err := y.Open(); got != 0 || err != api.ErrConn {
		t.Fatalf("Open() = %d, %d, want ErrConn", got, err)
	}
}

func closes(t *testing.T, y *switchyard.Yard, conn int) {
	t.Helper()
	if err := y.Close(conn); err != api.OK {
		t.Fatalf("Close(%d) = %d, want OK", conn, err)
	}
}

func feeds(t *testing.T, y *switchyard.Yard, conn int, s string) {
	t.Helper()
	if err := y.Feed(conn, []byte(s)); err != api.OK {
		t.Fatalf("Feed(%d, %q) = %d, want OK", conn, s, err)
	}
}

// isNone holds that there is no such connection, or that it is over, and that asking for it sends nothing.
func isNone(t *testing.T, y *switchyard.Yard, conn int) {
	t.Helper()
	for _, s := range []string{"", "x", "\n", simple} {
		if err := y.Feed(conn, []byte(s)); err != api.ErrConn {
			t.Fatalf("Feed(%d, %q) = %d, want ErrConn", conn, s, err)
		}
	}
	if err := y.Close(conn); err != api.ErrConn {
		t.Fatalf("Close(%d) = %d, want ErrConn", conn, err)
	}
	sends(t, y)
}

// sends holds that this was sent since Events was asked last, and that it is told once.
func sends(t *testing.T, y *switchyard.Yard, want ...api.Event) {
	t.Helper()
	if got := y.Events(); !slices.Equal(got, want) {
		t.Fatalf("Events() = %v, want %v", got, want)
	}
	if got := y.Events(); len(got) != 0 {
		t.Fatalf("Events() asked again = %v", got)
	}
}

// back is what goes back to the client.
func back(conn int, data string) api.Event {
	return api.Event{Conn: conn, Data: data}
}

// backs is that of one connection, one behind the other.
func backs(conn int, all ...string) []api.Event {
	var events []api.Event
	for _, data := range all {
		events = append(events, back(conn, data))
	}
	return events
}

// crlf puts a line end behind each.
func crlf(all ...string) string {
	return strings.Join(all, "\r\n") + "\r\n"
}

const (
	first  = "GET / HTTP/1.1"
	simple = first + "\r\nhost: a\r\n\r\n"
)

// asked is a whole head with these headers behind the host.
func asked(headers ...string) string {
	return crlf(first, "host: a") + strings.Join(append(headers, "", ""), "\r\n")
}

// begun is a head that goes on behind these headers.
func begun(headers ...string) string {
	return crlf(append([]string{first}, headers...)...)
}

// long is a whole head of just so many bytes.
func long(size int) string {
	return asked("b: " + strings.Repeat("x", size-len(asked("b: "))))
}

// isAnswered holds what goes back for the bytes of one connection: in one piece, byte by byte, and cut at every place.
func isAnswered(t *testing.T, stream string, want ...string) {
	t.Helper()
	sendsBack(t, want, stream)
	sendsBack(t, want, strings.Split(stream, "")...)
	for i := range len(stream) {
		sendsBack(t, want, stream[:i], stream[i:])
	}
}

// sendsBack leaves out what comes behind the end of the connection.
func sendsBack(t *testing.T, want []string, pieces ...string) {
	t.Helper()
	y := yardWith(t, 1)
	for _, piece := range pieces {
		if y.Feed(1, []byte(piece)) != api.OK {
			break
		}
	}
	if got := y.Events(); !slices.Equal(got, backs(1, want...)) {
		t.Fatalf("of %q: Events() = %v, want %q", pieces, got, want)
	}
}

// isRefused holds that the last byte brings this answer, none ahead of it does, and none behind it is looked at.
func isRefused(t *testing.T, s, want string) {
	t.Helper()
	y := yardWith(t, 2)
	last := len(s) - 1
	feeds(t, y, 2, simple[:len(simple)-1])
	feeds(t, y, 1, s[:last])
	if got := y.Events(); len(got) != 0 {
		t.Fatalf("%q: ahead of its last byte %v is sent", s, got)
	}
	feeds(t, y, 1, s[last:]+simple+"x\n"+simple)
	if got := y.Events(); !slices.Equal(got, backs(1, want)) {
		t.Fatalf("%q: Events() = %v, want %q", s, got, want)
	}
	isNone(t, y, 1)
	feeds(t, y, 2, simple[len(simple)-1:])
	sends(t, y, back(2, api.NoPolicy))
	opens(t, y, 3)
	isAnswered(t, s+simple, want)
}

// isTaken holds that these bytes are a request, by the last of them, and that another one may follow.
func isTaken(t *testing.T, s string) {
	t.Helper()
	y := yardWith(t, 1)
	last := len(s) - 1
	feeds(t, y, 1, s[:last])
	if got := y.Events(); len(got) != 0 {
		t.Fatalf("%q: ahead of its last byte %v is sent", s, got)
	}
	feeds(t, y, 1, s[last:])
	if got := y.Events(); !slices.Equal(got, backs(1, api.NoPolicy)) {
		t.Fatalf("%q: Events() = %v, want NoPolicy", s, got)
	}
	isAnswered(t, s+simple+s, api.NoPolicy, api.NoPolicy, api.NoPolicy)
}
