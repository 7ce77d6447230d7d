package switchyard

import "switchyard/api"

// Yard takes the bytes of many connections.
type Yard struct {
	conns []*connection // the first has the number 1; nil: it is over
	sent  []api.Event
}

// New makes one (P8).
func New() *Yard { return &Yard{} }

// Push takes a packed policy (P8).
func (y *Yard) Push(blob []byte) api.Errno { return api.OK }

// Draw lays a number behind those that are drawn (P9).
func (y *Yard) Draw(n uint64) {}

// Open begins a connection (P10).
func (y *Yard) Open() (int, api.Errno) {
	if len(y.conns) == api.MaxConns {
		return 0, api.ErrConn
	}
	y.conns = append(y.conns, &connection{})
	return len(y.conns), api.OK
}

// Feed takes bytes of a connection (P11).
func (y *Yard) Feed(conn int, b []byte) api.Errno {
	if !y.isOpen(conn) {
		return api.ErrConn
	}
	for i := 0; i < len(b) && y.isOpen(conn); i++ {
		y.take(conn, b[i])
	}
	return api.OK
}

func (y *Yard) take(number int, b byte) {
	answer, over := y.conns[number-1].take(b)
	if answer != "" {
		y.sent = append(y.sent, api.Event{Conn: number, Data: answer})
	}
	if over {
		y.end(number)
	}
}

// Close ends a connection (P10).
func (y *Yard) Close(conn int) api.Errno {
	if !y.isOpen(conn) {
		return api.ErrConn
	}
	y.end(conn)
	return api.OK
}

func (y *Yard) isOpen(number int) bool {
	return 1 <= number && number <= len(y.conns) && y.conns[number-1] != nil
}

// end keeps the number taken, and nothing else of the connection.
func (y *Yard) end(number int) { y.conns[number-1] = nil }

// Events tells what came out since it was asked last (P12).
func (y *Yard) Events() []api.Event {
	sent := y.sent
	y.sent = nil // the list is the caller's now
	return sent
}
