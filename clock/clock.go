// Package clock is times: see DOC.md, chapter 1.
package clock

import (
	"tarpaulin/api"
)

// Add is the sum of a time and a duration, held.
func Add(t, d int) int {
	t, d = hold(t), hold(d)
	// Two held numbers can add up to 2^63, which wraps round: so the room that is left is asked, not the sum.
	switch {
	case d > 0 && t > api.MaxTime-d:
		return api.MaxTime
	case d < 0 && t < -api.MaxTime-d:
		return -api.MaxTime
	}
	return t + d
}

// Sub is t less u, held.
func Sub(t, u int) int {
	// The least int has no opposite: u is held ahead of its sign being turned.
	return Add(t, -hold(u))
}

// Least is the lesser one, as it is.
func Least(a, b int) int { return min(a, b) }

// Next is the first of when, when and period, when and two periods, .. that is after now, held.
func Next(when, period, now int) (int, api.Errno) {
	if period < 1 || when < 0 || now < 0 {
		return 0, api.ErrArg
	}
	if when > api.MaxTime || period > api.MaxTime || now > api.MaxTime {
		return 0, api.ErrArg
	}
	if when > now {
		return when, api.OK
	}
	last := now - (now-when)%period
	return Add(last, period), api.OK
}

// Clock is a time that goes on when it is told so.
type Clock struct{ now int }

// New is one at 0.
func New() *Clock { return &Clock{} }

// Now is its time.
func (c *Clock) Now() int {
	if c == nil {
		return 0
	}
	return c.now
}

// Advance goes on by d, held.
func (c *Clock) Advance(d int) api.Errno {
	if c == nil || d < 0 {
		return api.ErrArg
	}
	c.now = Add(c.now, d)
	return api.OK
}

// hold is x, or the end of the times that it lies beyond.
func hold(x int) int {
	return max(-api.MaxTime, min(x, api.MaxTime))
}
