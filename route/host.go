package route

import "strings"

// key is a host of a policy. The host * is a name here: no request is for a host that is called so.
type key struct {
	name string
	wild bool // it has *. ahead
}

func keyOf(name string) key {
	rest, wild := strings.CutPrefix(name, "*.")
	return key{name: rest, wild: wild}
}

// host looks a request's host up: itself, then what stands behind each of its dots, the longest first, then *.
func (t *Table) host(name string) (host, bool) {
	if h, found := t.hosts[key{name: name}]; found {
		return h, true
	}
	for _, rest, more := strings.Cut(name, "."); more; _, rest, more = strings.Cut(rest, ".") {
		if h, found := t.hosts[key{name: rest, wild: true}]; found {
			return h, true
		}
	}
	h, found := t.hosts[keyOf("*")]
	return h, found
}
