package switchyard_test

import (
	"strconv"
	"strings"
	"testing"

	"switchyard/api"
)

// P12: what was sent, in its order, each once.

func TestEventsOfNothing(t *testing.T) {
	y := yardWith(t, 0)
	sends(t, y)
	opens(t, y, 1)
	sends(t, y)
	feeds(t, y, 1, "")
	sends(t, y)
	if err := y.Feed(1, nil); err != api.OK {
		t.Errorf("Feed(1, nil) = %d", err)
	}
	sends(t, y)
	feeds(t, y, 1, simple[:len(simple)-1])
	sends(t, y)
	closes(t, y, 1)
	sends(t, y)
}

// NoPolicy comes with the last byte of the body.
func TestNoPolicyWaitsForTheBody(t *testing.T) {
	for _, size := range []int{1, 2, 3, 255, 256, 257, 299, 300} {
		y := yardWith(t, 1)
		feeds(t, y, 1, asked("content-length: "+strconv.Itoa(size)))
		sends(t, y)
		for range size - 1 {
			feeds(t, y, 1, "\n")
			sends(t, y)
		}
		feeds(t, y, 1, "\n")
		sends(t, y, back(1, api.NoPolicy))
		feeds(t, y, 1, "\n")
		sends(t, y, back(1, api.Bad))
	}
}

func TestEventsOfConnectionsInTurns(t *testing.T) {
	y := yardWith(t, 3)
	with := asked("content-length: 3")
	feeds(t, y, 3, with)
	feeds(t, y, 1, with+"ab")
	feeds(t, y, 2, with+"abc")
	feeds(t, y, 3, "abc")
	feeds(t, y, 1, "c"+with)
	feeds(t, y, 2, simple+simple+"x\n"+simple)
	feeds(t, y, 3, begun("transfer-encoding: x"))
	feeds(t, y, 1, "abc")
	sends(t, y,
		back(2, api.NoPolicy), back(3, api.NoPolicy), back(1, api.NoPolicy),
		back(2, api.NoPolicy), back(2, api.NoPolicy), back(2, api.Bad),
		back(3, api.NotDone), back(1, api.NoPolicy))
	feeds(t, y, 1, simple)
	sends(t, y, back(1, api.NoPolicy))
}

// Each connection has its own head, body and count of bytes, however they are mixed.
func TestConnectionsByteByByte(t *testing.T) {
	streams := []string{
		asked("content-length: 5") + "abcde" + simple,
		simple + simple + begun(""),
		long(600) + simple,
		long(601),
		begun(twelve...) + crlf("host: a"),
	}
	want := [][]string{
		{api.NoPolicy, api.NoPolicy},
		{api.NoPolicy, api.NoPolicy, api.Bad},
		{api.NoPolicy, api.NoPolicy},
		{api.TooMuch},
		{api.TooMuch},
	}
	y := yardWith(t, len(streams))
	got := make([][]string, len(streams))
	for i := range 1000 {
		for k, stream := range streams {
			if i < len(stream) {
				feeds(t, y, k+1, stream[i:i+1])
			}
		}
		for _, event := range y.Events() {
			if event.To != "" {
				t.Fatalf("to %q", event.To)
			}
			got[event.Conn-1] = append(got[event.Conn-1], event.Data)
		}
	}
	for k := range streams {
		if strings.Join(got[k], "") != strings.Join(want[k], "") {
			t.Errorf("connection %d: %q, want %q", k+1, got[k], want[k])
		}
	}
}

// Asking often, or seldom, gives the same.
func TestEventsAskedOftenOrSeldom(t *testing.T) {
	stream := strings.Repeat(simple+asked("content-length: 1")+"x", 100) + "\n"
	for _, every := range []int{1, 2, 7, 100, len(stream)} {
		y := yardWith(t, 1)
		var got []api.Event
		for i := range stream {
			feeds(t, y, 1, stream[i:i+1])
			if i%every == 0 {
				got = append(got, y.Events()...)
			}
		}
		got = append(got, y.Events()...)
		if len(got) != 201 {
			t.Fatalf("asked every %d bytes: %d events", every, len(got))
		}
		for i, event := range got {
			if i < 200 && event != back(1, api.NoPolicy) || i == 200 && event != back(1, api.Bad) {
				t.Fatalf("asked every %d bytes: the event %d is %v", every, i, event)
			}
		}
	}
}

// What was sent stays to be told when its connection is over.
func TestEventsBehindTheEnd(t *testing.T) {
	y := yardWith(t, 2)
	feeds(t, y, 1, simple+asked("content-length: 1"))
	feeds(t, y, 2, simple+"\n")
	closes(t, y, 1)
	sends(t, y, back(1, api.NoPolicy), back(2, api.NoPolicy), back(2, api.Bad))
}
