package switchyard_test

import (
	"bytes"
	"math/rand"
	"slices"
	"strings"
	"testing"

	"switchyard/api"
	"switchyard/switchyard"
)

// P1 and P2, as far as the calls of yards without a policy go; and of P13, that pieces do not matter.

// streamHolds looks at what must be so of all bytes, in pieces that end at these places.
func streamHolds(t *testing.T, stream string, ends ...int) {
	t.Helper()
	y := yardWith(t, 1)
	from := 0
	for _, end := range append(ends, len(stream)) {
		before, over := expected(stream[:from])
		all, _ := expected(stream[:end])
		want := api.OK
		if over {
			want = api.ErrConn
		}
		handed, copied := withRoom([]byte(stream[from:end]))
		if err := y.Feed(1, handed); err != want {
			t.Fatalf("Feed(%q) behind %q = %d, want %d", stream[from:end], stream[:from], err, want)
		}
		if !bytes.Equal(handed[:cap(handed)], copied) {
			t.Fatalf("Feed(%q) wrote into what was handed in, or behind it", stream[from:end])
		}
		if got := y.Events(); !slices.Equal(got, backs(1, all[len(before):]...)) {
			t.Fatalf("Feed(%q) behind %q: Events() = %v, want %q", stream[from:end], stream[:from], got, all[len(before):])
		}
		from = end
	}
}

func TestStreamsOfAnyBytes(t *testing.T) {
	source := rand.New(rand.NewSource(6))
	for range 2000 {
		b := make([]byte, source.Intn(1500))
		source.Read(b)
		streamHolds(t, string(b))
		streamHolds(t, crlf(first, "host: a")+string(b))
		streamHolds(t, strings.ReplaceAll(string(b), "\n", "x"), source.Intn(len(b)+1))
	}
	for c := range 256 {
		same := strings.Repeat(string([]byte{byte(c)}), 2000)
		streamHolds(t, same)
		streamHolds(t, crlf(first)+same)
		streamHolds(t, asked("content-length: 300")+same, 300)
	}
}

// likely makes streams of pieces that often go together.
func likely(source *rand.Rand) string {
	pieces := []string{
		first, "POST /x?y HTTP/1.1", "GET", "/", " ", " HTTP/1.1", "\r\n", "\r\n", "\r\n", "\r\n\r\n", "\n", "\r", ":", "x", "\x00", "\xff",
		"host: a\r\n", "Host: a.b:80\r\n", "host:", "content-length: 3\r\n", "Content-Length:", "0", "12", "301", "transfer-encoding", "a: b\r\n", "c:\r\n",
		simple, crlf(first, "host: a"), crlf(first, "host: a"), asked("content-length: 4") + "abcd", long(599), long(600), long(601), strings.Repeat("x", 280), begun(twelve...), asked("content-length: 300"),
	}
	var stream strings.Builder
	for range source.Intn(14) {
		stream.WriteString(pieces[source.Intn(len(pieces))])
	}
	return stream.String()
}

func TestStreamsOfLikelyPieces(t *testing.T) {
	source := rand.New(rand.NewSource(7))
	for range 20000 {
		stream := likely(source)
		var ends []int
		for range source.Intn(6) {
			ends = append(ends, source.Intn(len(stream)+1))
		}
		slices.Sort(ends)
		streamHolds(t, stream, ends...)
	}
}

// Every stream that is one byte off one of requests.
func TestStreamsOneByteOffRequests(t *testing.T) {
	right := crlf("GET /x HTTP/1.1", "Host: a.b:80", "Content-Length: 03", "x-y:  z ", "") + "abc" + simple
	for i := range right {
		streamHolds(t, right[:i]+right[i+1:])
		for c := range 256 {
			streamHolds(t, right[:i]+string([]byte{byte(c)})+right[i:])
			streamHolds(t, right[:i]+string([]byte{byte(c)})+right[i+1:], i)
		}
	}
}

// Several connections and yards in turns: each hangs on what came in on it alone, and what is sent comes in the order of the calls.
func TestYardsInTurns(t *testing.T) {
	source := rand.New(rand.NewSource(8))
	for range 300 {
		yards := []*switchyard.Yard{yardWith(t, 3), yardWith(t, 3)}
		var streams [2][3]string
		var sent [2][]api.Event
		for range 30 {
			k, conn := source.Intn(2), source.Intn(3)
			piece := likely(source)
			before, over := expected(streams[k][conn])
			streams[k][conn] += piece
			all, _ := expected(streams[k][conn])
			sent[k] = append(sent[k], backs(conn+1, all[len(before):]...)...)
			if err := yards[k].Feed(conn+1, []byte(piece)); (err == api.OK) == over {
				t.Fatalf("Feed(%d, %q) = %d", conn+1, piece, err)
			}
		}
		for k, y := range yards {
			if got := y.Events(); !slices.Equal(got, sent[k]) {
				t.Fatalf("Events() = %v, want %v", got, sent[k])
			}
		}
	}
}

// The same calls on a yard give the same answers, whatever happens on another one.
func TestYardsDoNotCountForOneAnother(t *testing.T) {
	full := yardWith(t, api.MaxConns)
	opensNone(t, full)
	y := yardWith(t, 1)
	for conn := 1; conn <= api.MaxConns; conn++ {
		closes(t, full, conn)
	}
	feeds(t, y, 1, simple)
	sends(t, full)
	sends(t, y, back(1, api.NoPolicy))
	opens(t, y, 2)
	isNone(t, y, 3)
}

func FuzzFeed(f *testing.F) {
	for _, stream := range []string{"", simple, begun("transfer-encoding:"), begun(twelve...), long(600), asked("content-length: 3") + "abc", asked("content-length: 301")} {
		f.Add(stream, 7)
	}
	f.Fuzz(func(t *testing.T, stream string, end int) {
		streamHolds(t, stream)
		streamHolds(t, stream, max(0, min(end, len(stream))))
	})
}

// What is handed in may be changed behind the call, also in the midst of a request.
func TestFeedKeepsNothingOfWhatIsHandedIn(t *testing.T) {
	stream := asked("content-length: 3") + "abc" + long(600)
	for i := range stream {
		for _, c := range []byte("\n\r x\x00") {
			y := yardWith(t, 1)
			b := []byte(stream[:i])
			if err := y.Feed(1, b); err != api.OK {
				t.Fatalf("Feed = %d", err)
			}
			for k := range b[:cap(b)] {
				b[:cap(b)][k] = c
			}
			feeds(t, y, 1, stream[i:])
			sends(t, y, back(1, api.NoPolicy), back(1, api.NoPolicy))
		}
	}
}

// One list for all that is handed in: each piece comes to stand where the one ahead of it stood.
func TestFeedOfOneListAgainAndAgain(t *testing.T) {
	stream := asked("content-length: 3") + "abc" + simple + long(600)
	y := yardWith(t, 1)
	list := make([]byte, 5)
	for rest := stream; rest != ""; {
		n := copy(list, rest)
		rest = rest[n:]
		if err := y.Feed(1, list[:n]); err != api.OK {
			t.Fatalf("Feed = %d", err)
		}
	}
	sends(t, y, back(1, api.NoPolicy), back(1, api.NoPolicy), back(1, api.NoPolicy))
}

// Lists that come out are the caller's, spare room too: neither does the yard write there, nor does it read there.
func TestEventsAreNewMemory(t *testing.T) {
	y := yardWith(t, 2)
	mark := api.Event{Conn: 77, To: "u", Data: "x"}
	var lists [][]api.Event
	for n := range 20 {
		var want []api.Event
		for k := range n {
			feeds(t, y, k%2+1, simple)
			want = append(want, back(k%2+1, api.NoPolicy))
		}
		list := y.Events()
		if !slices.Equal(list, want) {
			t.Fatalf("Events() = %v, want %v", list, want)
		}
		for _, earlier := range lists {
			if !separate(earlier, list) {
				t.Fatal("two lists have a place in common")
			}
		}
		list = list[:cap(list)]
		for i := range list {
			list[i] = mark
		}
		lists = append(lists, list)
	}
	feeds(t, y, 1, simple+simple+"\n")
	sends(t, y, back(1, api.NoPolicy), back(1, api.NoPolicy), back(1, api.Bad))
	for _, list := range lists {
		for _, event := range list {
			if event != mark {
				t.Fatalf("the caller's list has %v now", event)
			}
		}
	}
}
