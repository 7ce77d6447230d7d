package route

import (
	"math/rand"
	"slices"
	"strings"
	"testing"

	"switchyard/policy"
)

// The point of the document's section 'Ways' on tries: these look inside.

func ofPaths(paths ...string) program {
	var rules []policy.Rule
	for _, path := range paths {
		rules = append(rules, policy.Rule{Path: path})
	}
	return programOf(rules...)
}

func TestProgramOfPathsThatBeginAlike(t *testing.T) {
	const end = 10
	want := program{
		{kind: step, on: '/', to: 9},
		{kind: step, on: 'a', to: 5},
		{kind: note, rule: 0},
		{kind: note, rule: 2},
		{kind: jump, to: end},
		{kind: step, on: 'b', to: 8},
		{kind: note, rule: 1},
		{kind: jump, to: end},
		{kind: jump, to: end},
		{kind: jump, to: end},
	}
	if got := ofPaths("/a", "/b", "/a"); !slices.Equal(got, want) {
		t.Errorf("got  %v\nwant %v", got, want)
	}
}

func TestBeginningsAreLaidOnce(t *testing.T) {
	steps := func(p program) int {
		n := 0
		for _, one := range p {
			if one.kind == step {
				n++
			}
		}
		return n
	}
	for _, c := range []struct {
		want  int
		paths []string
	}{
		{0, nil}, {1, []string{"/"}}, {1, []string{"/", "/"}}, {4, []string{"/abc"}}, {4, []string{"/a", "/abc", "/ab", "/"}}, {5, []string{"/abc", "/abd"}}, {7, []string{"/abc", "/bbc"}},
	} {
		if got := steps(ofPaths(c.paths...)); got != c.want {
			t.Errorf("of %q: %d steps, want %d", c.paths, got, c.want)
		}
	}
}

// somePath is one of few bytes, so that many begin alike.
func somePath(source *rand.Rand, most int) string {
	path := []byte("/")
	for range source.Intn(most) {
		path = append(path, "ab/"[source.Intn(3)])
	}
	return string(path)
}

func TestRunIsAsAskingEachPath(t *testing.T) {
	source := rand.New(rand.NewSource(20))
	for range 3000 {
		var paths []string
		for range source.Intn(8) {
			paths = append(paths, somePath(source, 7))
		}
		p := ofPaths(paths...)
		for i, one := range p {
			if one.kind != note && (one.to <= i || one.to > len(p)) {
				t.Fatalf("of %q: the instruction %d leads to %d", paths, i, one.to)
			}
		}
		for range 20 {
			asked := somePath(source, 10)
			var want []int
			for i, path := range paths {
				if strings.HasPrefix(asked, path) {
					want = append(want, i)
				}
			}
			got := p.run(asked)
			slices.Sort(got)
			if !slices.Equal(got, want) {
				t.Fatalf("of %q: run(%q) = %v, want %v", paths, asked, got, want)
			}
		}
	}
}

func TestRunOfPathsThatNoTargetHas(t *testing.T) {
	p := ofPaths("/", "/a")
	for _, path := range []string{"", "a", "?", "\x00"} {
		if got := p.run(path); len(got) != 0 {
			t.Errorf("run(%q) = %v", path, got)
		}
	}
}

func TestKeys(t *testing.T) {
	for name, want := range map[string]key{"a.b": {"a.b", false}, "*.a.b": {"a.b", true}, "*": {"*", false}} {
		if got := keyOf(name); got != want {
			t.Errorf("keyOf(%q) = %v", name, got)
		}
	}
}

func TestTargetDrawsOnlyAmongSeveral(t *testing.T) {
	draws := 0
	draw := func() uint64 {
		draws++
		return 5
	}
	one, two := policy.Target{Upstream: "u", Weight: 3}, policy.Target{Upstream: "v", Weight: 4}
	if got := Target(draw, one); got != "u" || draws != 0 {
		t.Errorf("%q, %d numbers drawn", got, draws)
	}
	if got := Target(draw, one, two); got != "v" || draws != 1 {
		t.Errorf("%q, %d numbers drawn", got, draws)
	}
}
