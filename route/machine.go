package route

type kind int

const (
	note kind = iota // a rule's path ends here
	step             // go on if the path goes on with this byte, else jump
	jump
)

// instruction has what its kind asks for, and noughts elsewhere.
type instruction struct {
	kind kind
	rule int  // of a note
	on   byte // of a step
	to   int  // of a step and of a jump: a place further ahead
}

type program []instruction

// aimJumps is for when all is laid: where no branch of a node is left, none of another one fits either,
// since no two branches of a node have the same byte.
func (p program) aimJumps() {
	for i := range p {
		if p[i].kind == jump {
			p[i].to = len(p)
		}
	}
}

// run answers the places of the rules whose paths this one begins with. It ends since it only goes ahead.
func (p program) run(path string) []int {
	var rules []int
	at, here := 0, 0
	for here < len(p) {
		switch now := p[here]; now.kind {
		case note:
			rules = append(rules, now.rule)
			here++
		case step:
			if at < len(path) && path[at] == now.on {
				at++
				here++
				break
			}
			fallthrough
		case jump:
			here = now.to
		}
	}
	return rules
}
