package switchyard

import "switchyard/request"

// connection is one that is not over: in the midst of a head, or of the body behind it.
type connection struct {
	head    request.Head
	waiting *parcel // nil in the midst of a head
}

// parcel is what is sent when the body is complete.
type parcel struct {
	to   string // empty: back to the client
	data []byte
	left int // bytes of the body that have not come
}

func (p *parcel) complete() bool { return p.left == 0 }

// take takes the next byte of the body, which an answer to the client has no use for.
func (p *parcel) take(b byte) {
	p.left--
	if p.to != "" {
		p.data = append(p.data, b)
	}
}

// take takes the next byte. If the request is refused by it, it answers what goes back to the client.
// What becomes of a request is decided as soon as its head is whole; nothing of that head is asked for again.
func (c *connection) take(b byte, decide func(*request.Head) *parcel) (refused string) {
	if c.waiting != nil {
		c.waiting.take(b)
		return ""
	}
	whole, refused := c.head.Take(b)
	if whole && refused == "" {
		c.waiting = decide(&c.head)
		c.head = request.Head{}
	}
	return refused
}

// ready gives out what is to be sent now, once, or nil.
func (c *connection) ready() *parcel {
	if c.waiting == nil || !c.waiting.complete() {
		return nil
	}
	sent := c.waiting
	c.waiting = nil
	return sent
}
