package switchyard_test

import (
	"bytes"
	"math/rand"
	"slices"
	"strings"
	"testing"

	"switchyard/api"
	"switchyard/switchyard"
)

// P1, P2 and P13, of yards with a policy.

// someCall makes one call on a yard and on the model alike, and holds their answers against each other.
func someCall(t *testing.T, source *rand.Rand, y *switchyard.Yard, model *modelYard) {
	t.Helper()
	conn := source.Intn(5)
	switch source.Intn(16) {
	case 0:
		got, err := y.Open()
		if want, wantErr := model.open(); got != want || err != wantErr {
			t.Fatalf("Open() = %d, %d, want %d, %d", got, err, want, wantErr)
		}
	case 1:
		if source.Intn(4) > 0 {
			break
		}
		if err, want := y.Close(conn), model.close(conn); err != want {
			t.Fatalf("Close(%d) = %d, want %d", conn, err, want)
		}
	case 2:
		model.hosts, model.has = somePolicy(source), true
		pushes(t, y, written(model.hosts))
	case 3:
		blob := packedOf(t, written(somePolicy(source)))
		blob[source.Intn(len(blob))] ^= 1 << source.Intn(8)
		doesNotPush(t, y, blob)
	case 4, 5, 6:
		n := source.Uint64() >> source.Intn(64)
		y.Draw(n)
		model.draws = append(model.draws, n)
	case 7:
		if got := y.Events(); !slices.Equal(got, model.events) {
			t.Fatalf("Events() = %v\nwant %v\nof %q", got, model.events, written(model.hosts))
		}
		model.events = nil
	default:
		stream := someStream(source)
		if err, want := y.Feed(conn, []byte(stream)), model.feed(conn, stream); err != want {
			t.Fatalf("Feed(%d, %q) = %d, want %d", conn, stream, err, want)
		}
	}
}

// someStream is requests, cut anywhere now and then, and seldom something else.
func someStream(source *rand.Rand) string {
	var stream strings.Builder
	for range source.Intn(3) {
		stream.WriteString(someRequest(source))
	}
	if source.Intn(150) == 0 {
		stream.WriteString(likely(source))
	}
	s := stream.String()
	if source.Intn(20) == 0 {
		return s[:source.Intn(len(s)+1)]
	}
	return s
}

func TestYardsAreAsTheModel(t *testing.T) {
	source := rand.New(rand.NewSource(30))
	went := map[string]int{}
	for range 1500 {
		y, model := switchyard.New(), &modelYard{}
		for range 80 {
			someCall(t, source, y, model)
			for _, event := range model.events {
				went[event.To]++
			}
		}
	}
	for _, to := range []string{"", "u", "v", "w", "x"} {
		if went[to] < 1000 {
			t.Errorf("only %d requests to %q: the model is not asked enough", went[to], to)
		}
	}
}

// P13: it does not matter in what pieces bytes come in.
func TestPiecesDoNotMatter(t *testing.T) {
	source := rand.New(rand.NewSource(31))
	for range 300 {
		policy := written(somePolicy(source))
		var stream string
		for range 6 {
			stream += someRequest(source)
		}
		if source.Intn(3) == 0 {
			stream += likely(source)
		}
		numbers := []uint64{source.Uint64(), source.Uint64(), source.Uint64()}
		inPieces := func(size func() int) []api.Event {
			y := yardOf(t, policy)
			draws(y, numbers...)
			for rest := stream; rest != ""; {
				n := min(size(), len(rest))
				if y.Feed(1, []byte(rest[:n])) != api.OK {
					break
				}
				rest = rest[n:]
			}
			return y.Events()
		}
		want := inPieces(func() int { return len(stream) })
		for size := 1; size < 12; size++ {
			if got := inPieces(func() int { return size }); !slices.Equal(got, want) {
				t.Fatalf("%q in pieces of %d: %v, want %v", stream, size, got, want)
			}
		}
		if got := inPieces(func() int { return source.Intn(50) }); !slices.Equal(got, want) {
			t.Fatalf("%q in some pieces: %v, want %v", stream, got, want)
		}
	}
}

// P13: requests of one connection are answered in their order, whatever becomes of each.
func TestRequestsAreAnsweredInTheirOrder(t *testing.T) {
	y := yardOf(t, `host "a" { `+ruleTo("1", "/x", "", "x")+` rule 2 { path "/"; to "u" 1, "v" 1; } }`)
	draws(y, 1, 0, 1)
	with := crlf("PUT /x HTTP/1.1", "host: a", "content-length: 300", "") + strings.Repeat("\n", 300)
	feeds(t, y, 1, get("/", "a")+with+get("/", "b")+get("/x", "a")+get("/", "a")+with+get("/1", "a")+"x\n"+get("/", "a"))
	sends(t, y,
		onward(1, "v", get("/", "a")), onward(1, "x", with), back(1, api.NoRoute), onward(1, "x", get("/x", "a")),
		onward(1, "u", get("/", "a")), onward(1, "x", with), onward(1, "v", get("/1", "a")), back(1, api.Bad))
}

// P13: the plain form is a policy that means the same.
func TestThePlainFormMeansTheSame(t *testing.T) {
	source := rand.New(rand.NewSource(32))
	for range 300 {
		text := written(somePolicy(source))
		plain, err, _ := switchyard.Plain(text)
		if err != api.OK {
			t.Fatalf("Plain(%q): %d", text, err)
		}
		if len(plain) > api.MaxText {
			continue
		}
		y, other := yardOf(t, text), yardOf(t, plain)
		for range 20 {
			stream, n := someRequest(source), source.Uint64()
			draws(y, n)
			draws(other, n)
			feeds(t, y, 1, stream)
			feeds(t, other, 1, stream)
			if got, want := other.Events(), y.Events(); !slices.Equal(got, want) {
				t.Fatalf("of %q: %v, want %v", stream, got, want)
			}
		}
	}
}

// pushHolds looks at what must be so of all bytes: they are pushed just if they are unpacked.
func pushHolds(t *testing.T, blob []byte, stream string) {
	t.Helper()
	_, want := switchyard.Unpack(blob)
	y := yardOf(t, allTo("kept"))
	handed, before := withRoom(blob)
	if err := y.Push(handed); err != want {
		t.Fatalf("Push(%q) = %d, want %d", blob, err, want)
	}
	if !bytes.Equal(handed[:cap(handed)], before) {
		t.Fatalf("Push(%q) wrote into what was handed in, or behind it", blob)
	}
	for i := range before {
		handed[:cap(handed)][i] ^= 0xff
	}
	y.Feed(1, []byte(stream))
	got := y.Events()
	byBytes := yardOf(t, allTo("kept"))
	byBytes.Push(blob)
	for i := range len(stream) {
		byBytes.Feed(1, []byte(stream[i:i+1]))
	}
	if other := byBytes.Events(); !slices.Equal(got, other) {
		t.Fatalf("Push(%q), Feed(%q): %v, but byte by byte %v", blob, stream, got, other)
	}
	if want == api.ErrBlob && strings.HasPrefix(stream, simple) && (len(got) == 0 || got[0] != onward(1, "kept", simple)) {
		t.Fatalf("Push(%q) changed the yard: %v", blob, got)
	}
}

func TestPushOfAnyBytes(t *testing.T) {
	source := rand.New(rand.NewSource(33))
	for range 1000 {
		b := make([]byte, source.Intn(200))
		source.Read(b)
		pushHolds(t, b, simple)
		pushHolds(t, sealed("SY1", string(b)), simple)
	}
	pushHolds(t, nil, simple)
	pushHolds(t, bytes.Repeat([]byte{0xff}, 1<<16), simple)
	pushHolds(t, sealed("SY1", strings.Repeat("\xff", 1<<16)), simple)
}

// Packed policies with bytes changed, and the sum that they have then: many are packed policies still.
func TestPushOfLikelyBytes(t *testing.T) {
	source := rand.New(rand.NewSource(34))
	for range 5000 {
		ahead := unsealed(packedOf(t, written(somePolicy(source))))
		for range source.Intn(3) {
			ahead[source.Intn(len(ahead))] = "\x00\x01\x02\x03\x04/a*.\""[source.Intn(10)]
		}
		pushHolds(t, sealed(string(ahead)), simple+someRequest(source)+someRequest(source))
	}
}

func FuzzPush(f *testing.F) {
	for _, text := range []string{"", whole, allTo("u"), shared(`"u" 1, "v" 2`), changing("/x", `replace "/"; set "a" = "b"; drop "c";`)} {
		blob, _, _ := switchyard.Pack(text)
		f.Add(unsealed(blob), get("/xy?z", "c.a.b", "x-id: 1", "x-env: test", "a: 1"))
	}
	f.Fuzz(func(t *testing.T, ahead []byte, stream string) {
		pushHolds(t, ahead, stream)
		pushHolds(t, sealed(string(ahead)), simple+stream)
	})
}

// The policy that a yard has does not hang on the bytes that it came of.
func TestPushKeepsNothingOfWhatIsHandedIn(t *testing.T) {
	text := ofAll(`rule 1 { path "/x"; header "k" = "v"; to "up" 1, "down" 1; replace "/y"; set "s" = "t"; drop "d"; }`)
	blob := packedOf(t, text)
	for _, fill := range []byte("\x00z/\xff") {
		y := yardWith(t, 1)
		handed := bytes.Clone(blob)
		if err := y.Push(handed); err != api.OK {
			t.Fatalf("Push = %d", err)
		}
		for i := range handed[:cap(handed)] {
			handed[:cap(handed)][i] = fill
		}
		draws(y, 1)
		becomes(t, y, get("/x", "h", "d: 1", "k: v"), "down", get("/y", "h", "k: v", "s: t"))
	}
}

// What was fed may be changed at any time: in the midst of a head, of a body, and behind the request.
func TestRequestsKeepNothingOfWhatIsHandedIn(t *testing.T) {
	stream := put("/", "body", "4")
	for i := range len(stream) + 1 {
		y := yardOf(t, allTo("u"))
		for _, piece := range []string{stream[:i], stream[i:]} {
			b := []byte(piece)
			if err := y.Feed(1, b); err != api.OK {
				t.Fatalf("Feed = %d", err)
			}
			for k := range b[:cap(b)] {
				b[:cap(b)][k] = '?'
			}
		}
		sends(t, y, onward(1, "u", stream))
	}
}

// What came out stays as it was, whatever the yard does later; and what the caller writes there changes nothing.
func TestEventsOfRequestsAreNewMemory(t *testing.T) {
	y := yardOf(t, allTo("u"))
	var lists [][]api.Event
	for n := range 20 {
		for range n {
			feeds(t, y, 1, put("/"+itoa(n), "abc", "3"))
		}
		list := y.Events()
		for _, earlier := range lists {
			if !separate(earlier, list) {
				t.Fatal("two lists have a place in common")
			}
		}
		lists = append(lists, list)
	}
	for n, list := range lists {
		if len(list) != n {
			t.Fatalf("%d events, want %d", len(list), n)
		}
		for _, event := range list {
			if event != onward(1, "u", put("/"+itoa(n), "abc", "3")) {
				t.Fatalf("%v came out at %d", event, n)
			}
		}
		for i := range list[:cap(list)] {
			list[:cap(list)][i] = back(77, "x")
		}
	}
	goesTo(t, y, simple, "u")
}

// What one yard has does not count for another one.
func TestPoliciesStayWithTheirYard(t *testing.T) {
	one, two, three := yardWith(t, 1), yardWith(t, 1), yardWith(t, 1)
	pushes(t, one, allTo("one"))
	becomes(t, two, simple, "", api.NoPolicy)
	pushes(t, two, allTo("two"))
	goesTo(t, one, simple, "one")
	goesTo(t, two, simple, "two")
	becomes(t, three, simple, "", api.NoPolicy)
}
