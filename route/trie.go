package route

import "switchyard/policy"

// node is a place in the trie: what the bytes on the way to it spell is how paths begin.
type node struct {
	rules    []int // whose path is just that, by their places in the host
	branches []branch
}

type branch struct {
	on byte
	to *node
}

// programOf lays the paths of rules into a trie, and the trie flat.
func programOf(rules ...policy.Rule) program {
	var root node
	for place, rule := range rules {
		end := root.grow(rule.Path)
		end.rules = append(end.rules, place)
	}
	flat := root.lay(nil)
	flat.aimJumps()
	return flat
}

// grow answers the node at the end of a path, and makes what is missing on the way.
func (n *node) grow(path string) *node {
	here := n
	for i := range len(path) {
		here = here.next(path[i])
	}
	return here
}

func (n *node) next(on byte) *node {
	for _, b := range n.branches {
		if b.on == on {
			return b.to
		}
	}
	to := &node{}
	n.branches = append(n.branches, branch{on: on, to: to})
	return to
}

// lay puts a node and all behind it at the end of a program. A byte that does not fit leads
// past what stands behind it, to the next branch; the jump is for where no branch is left.
func (n *node) lay(p program) program {
	for _, place := range n.rules {
		p = append(p, instruction{kind: note, rule: place})
	}
	for _, b := range n.branches {
		at := len(p)
		p = append(p, instruction{kind: step, on: b.on})
		p = b.to.lay(p)
		p[at].to = len(p)
	}
	return append(p, instruction{kind: jump})
}
