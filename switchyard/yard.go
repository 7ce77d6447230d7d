package switchyard

import (
	"switchyard/api"
	"switchyard/packed"
	"switchyard/request"
	"switchyard/route"
)

// Yard takes the bytes of many connections.
type Yard struct {
	table *route.Table  // nil: no policy
	draws []uint64      // wait to be drawn, from the front
	conns []*connection // the first has the number 1; nil: it is over
	sent  []api.Event
}

// New makes one (P8).
func New() *Yard { return &Yard{} }

// Push takes a packed policy (P8).
func (y *Yard) Push(blob []byte) api.Errno {
	p, is := packed.Read(blob)
	if !is {
		return api.ErrBlob
	}
	y.table = route.New(p)
	return api.OK
}

// Draw lays a number behind those that are drawn (P9).
func (y *Yard) Draw(n uint64) { y.draws = append(y.draws, n) }

// drawn takes the number at the front, if there is one.
func (y *Yard) drawn() uint64 {
	if len(y.draws) == 0 {
		return 0
	}
	n := y.draws[0]
	y.draws = y.draws[1:]
	return n
}

// Open begins a connection (P10).
func (y *Yard) Open() (int, api.Errno) {
	if len(y.conns) == api.MaxConns {
		return 0, api.ErrConn
	}
	y.conns = append(y.conns, &connection{})
	return len(y.conns), api.OK
}

// Feed takes bytes of a connection (P11).
func (y *Yard) Feed(conn int, b []byte) api.Errno {
	if !y.isOpen(conn) {
		return api.ErrConn
	}
	for i := 0; i < len(b) && y.isOpen(conn); i++ {
		y.take(conn, b[i])
	}
	return api.OK
}

func (y *Yard) take(number int, b byte) {
	c := y.conns[number-1]
	if refused := c.take(b, y.decide); refused != "" {
		y.send(number, "", refused)
		y.end(number)
		return
	}
	if p := c.ready(); p != nil {
		y.send(number, p.to, string(p.data))
	}
}

// decide is asked at the end of a head: a policy or a number that comes later does not count for it.
func (y *Yard) decide(head *request.Head) *parcel {
	if y.table == nil {
		return &parcel{data: []byte(api.NoPolicy), left: head.Body()}
	}
	rule, found := y.table.Find(head)
	if !found {
		return &parcel{data: []byte(api.NoRoute), left: head.Body()}
	}
	to := route.Target(y.drawn, rule.Targets...)
	return &parcel{to: to, data: []byte(head.Sent(rule)), left: head.Body()}
}

func (y *Yard) send(number int, to, data string) {
	y.sent = append(y.sent, api.Event{Conn: number, To: to, Data: data})
}

// Close ends a connection (P10).
func (y *Yard) Close(conn int) api.Errno {
	if !y.isOpen(conn) {
		return api.ErrConn
	}
	y.end(conn)
	return api.OK
}

func (y *Yard) isOpen(number int) bool {
	return 1 <= number && number <= len(y.conns) && y.conns[number-1] != nil
}

// end keeps the number taken, and nothing else of the connection.
func (y *Yard) end(number int) { y.conns[number-1] = nil }

// Events tells what came out since it was asked last (P12).
func (y *Yard) Events() []api.Event {
	sent := y.sent
	y.sent = nil // the list is the caller's now
	return sent
}
