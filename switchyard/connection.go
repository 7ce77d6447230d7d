package switchyard

import (
	"switchyard/api"
	"switchyard/request"
)

// connection is one that is not over: in the midst of a head, or of the body behind it.
type connection struct {
	head   request.Head
	left   int    // bytes of the body that have not come
	answer string // waits for them; empty in the midst of a head
}

// take takes the next byte. It answers what is sent by it, if anything, and whether the connection is over.
func (c *connection) take(b byte) (sent string, over bool) {
	if c.left > 0 {
		c.left--
		return c.complete(), false
	}
	whole, refused := c.head.Take(b)
	if refused != "" {
		return refused, true
	}
	if whole {
		c.decide()
	}
	return c.complete(), false
}

// decide makes room for the next head at once: nothing of this one is asked for again.
func (c *connection) decide() {
	c.answer, c.left = api.NoPolicy, c.head.Body()
	c.head = request.Head{}
}

// complete gives the answer out once, when no byte of the body is missing.
func (c *connection) complete() string {
	if c.left > 0 {
		return ""
	}
	answer := c.answer
	c.answer = ""
	return answer
}
