package desk

import (
	"debenture/api"
)

// mostRoom is for how many a line has room at most.
const mostRoom = 64

// Line is things that wait.
type Line[T any] struct {
	waiting chan T
	closed  bool
}

// NewLine is a line with room for so many.
func NewLine[T any](room int) *Line[T] {
	if room < 1 || room > mostRoom {
		return nil
	}
	return &Line[T]{waiting: make(chan T, room)}
}

// Offer puts something behind the others.
func (l *Line[T]) Offer(x T) api.Errno {
	if l == nil {
		return api.ErrArg
	}
	if l.closed {
		return api.ErrOff
	}
	select {
	case l.waiting <- x:
		return api.OK
	default:
		return api.ErrBusy
	}
}

// Take takes the first one.
func (l *Line[T]) Take() (T, bool) {
	var none T
	if l == nil {
		return none, false
	}
	select {
	case x, ok := <-l.waiting:
		return x, ok
	default:
		return none, false
	}
}

// Close lets a line take no more.
func (l *Line[T]) Close() {
	if l == nil || l.closed {
		return
	}
	l.closed = true
	close(l.waiting)
}

// Len is how many wait.
func (l *Line[T]) Len() int {
	if l == nil {
		return 0
	}
	return len(l.waiting)
}
