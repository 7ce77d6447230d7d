package switchyard_test

import (
	"math"
	"testing"

	"switchyard/api"
	"switchyard/switchyard"
)

// P10, and what P8 says of New: connections, their numbers and their ends.

func TestNewHasNothing(t *testing.T) {
	y := switchyard.New()
	if y == nil {
		t.Fatal("New() = nil")
	}
	sends(t, y)
	for _, conn := range []int{-1, 0, 1, 2} {
		isNone(t, y, conn)
	}
	opens(t, y, 1)
	feeds(t, y, 1, simple)
	sends(t, y, back(1, api.NoPolicy))
}

func TestOpenCountsToMaxConns(t *testing.T) {
	y := yardWith(t, 64)
	for range 3 {
		opensNone(t, y)
	}
	for conn := 1; conn <= 64; conn++ {
		feeds(t, y, conn, simple)
		sends(t, y, back(conn, api.NoPolicy))
	}
	isNone(t, y, 65)
}

func TestOpenCountsConnectionsThatAreOver(t *testing.T) {
	y := yardWith(t, 1)
	closes(t, y, 1)
	opens(t, y, 2)
	feeds(t, y, 2, "\n")
	sends(t, y, back(2, api.Bad))
	for conn := 3; conn <= 64; conn++ {
		opens(t, y, conn)
		closes(t, y, conn)
	}
	opensNone(t, y)
	for conn := 1; conn <= 64; conn++ {
		isNone(t, y, conn)
	}
	opensNone(t, y)
}

func TestNoSuchConnection(t *testing.T) {
	for _, n := range []int{0, 1, 3, api.MaxConns} {
		y := yardWith(t, n)
		for _, conn := range []int{0, -1, -2, -n, -64, n + 1, n + 2, 65, 128, 256, 257, 1 << 16, 1<<32 + 1, -1<<32 + 1, math.MaxInt, math.MaxInt - 1, math.MinInt, math.MinInt + 1} {
			isNone(t, y, conn)
		}
	}
}

// What is asked of a connection that there is not yet does not count for it later.
func TestNumbersThatComeLater(t *testing.T) {
	y := yardWith(t, 1)
	if err := y.Feed(2, []byte(first)); err != api.ErrConn {
		t.Fatalf("Feed(2) = %d", err)
	}
	isNone(t, y, 2)
	opens(t, y, 2)
	feeds(t, y, 2, simple)
	sends(t, y, back(2, api.NoPolicy))
	closes(t, y, 2)
}

func TestCloseTwice(t *testing.T) {
	y := yardWith(t, 3)
	closes(t, y, 2)
	isNone(t, y, 2)
	isNone(t, y, 2)
	for _, conn := range []int{1, 3} {
		feeds(t, y, conn, simple)
		sends(t, y, back(conn, api.NoPolicy))
	}
	closes(t, y, 3)
	closes(t, y, 1)
	for _, conn := range []int{1, 2, 3} {
		isNone(t, y, conn)
	}
	opens(t, y, 4)
}

func TestCloseOfWhatAnAnswerEnded(t *testing.T) {
	for _, c := range []struct{ stream, want string }{
		{"\n", api.Bad},
		{begun(""), api.Bad},
		{begun("content-length: 301"), api.TooLarge},
		{begun("transfer-encoding: x"), api.NotDone},
		{long(601), api.TooMuch},
	} {
		y := yardWith(t, 2)
		feeds(t, y, 1, c.stream)
		if err := y.Close(1); err != api.ErrConn {
			t.Errorf("Close behind %q = %d, want ErrConn", c.want, err)
		}
		sends(t, y, back(1, c.want))
		isNone(t, y, 1)
		closes(t, y, 2)
		opens(t, y, 3)
	}
}

func TestNoPolicyDoesNotEndTheConnection(t *testing.T) {
	y := yardWith(t, 1)
	for range 5 {
		feeds(t, y, 1, simple)
		sends(t, y, back(1, api.NoPolicy))
	}
	feeds(t, y, 1, "")
	closes(t, y, 1)
	isNone(t, y, 1)
}

// Close at every place of a request: what is not sent yet is never sent, what is sent stays.
func TestCloseInTheMidst(t *testing.T) {
	stream := simple + asked("content-length: 3") + "abc" + simple
	sent := []int{len(simple), len(stream) - len(simple), len(stream)}
	for i := range len(stream) + 1 {
		y := yardWith(t, 2)
		feeds(t, y, 2, stream[:i])
		closes(t, y, 2)
		var want []api.Event
		for _, end := range sent {
			if end <= i {
				want = append(want, back(2, api.NoPolicy))
			}
		}
		sends(t, y, want...)
		if err := y.Feed(2, []byte(stream[i:])); err != api.ErrConn {
			t.Fatalf("Feed behind Close = %d", err)
		}
		isNone(t, y, 2)
		opens(t, y, 3)
		for _, conn := range []int{1, 3} {
			feeds(t, y, conn, stream)
			sends(t, y, backs(conn, api.NoPolicy, api.NoPolicy, api.NoPolicy)...)
		}
	}
}

// An error changes nothing: not even what is in the midst.
func TestErrorsChangeNothing(t *testing.T) {
	stream := asked("content-length: 3") + "abc"
	y := yardWith(t, api.MaxConns)
	closes(t, y, 7)
	for i := range stream {
		for _, conn := range []int{-1, 0, 7, 65} {
			isNone(t, y, conn)
		}
		opensNone(t, y)
		feeds(t, y, 64, stream[i:i+1])
	}
	sends(t, y, back(64, api.NoPolicy))
}
