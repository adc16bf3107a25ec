package chanq_test

import (
	"fmt"
	"math"
	"math/rand"
	"slices"
	"testing"

	"tarpaulin/api"
	"tarpaulin/chanq"
)

// goesOn ends a test that has failed: a long loop would tell the same over and over.
func goesOn(t *testing.T) {
	t.Helper()
	if t.Failed() {
		t.FailNow()
	}
}

// channel is what can be done with a Chan, and with the model that it is held against.
type channel interface {
	Send(v int) (bool, []api.Wake, api.Errno)
	Recv() (v int, ok, done bool, wakes []api.Wake)
	Close() ([]api.Wake, api.Errno)
	Wait(w api.Wait, send bool) api.Errno
	Remove(task int) int
	Can(send bool) bool
	Put(v int) ([]api.Wake, bool)
	Drop() bool
	End() []api.Wake
	Len() int
	Cap() int
	Closed() bool
	Waiting(send bool) []api.Wait
}

// one is a wait of that task and case, that sends v.
func one(task, kase, v int) api.Wait {
	return api.Wait{Task: task, Case: kase, Value: v}
}

// got is the wake of one who receives v, and sent that of one whose value went.
func got(task, kase, v int) api.Wake {
	return api.Wake{Task: task, Case: kase, Value: v, OK: true}
}

func sent(task, kase int) api.Wake {
	return api.Wake{Task: task, Case: kase, OK: true}
}

// over is the wake of one who receives of what is closed, and bad that of one who sends on it.
func over(task, kase int) api.Wake {
	return api.Wake{Task: task, Case: kase}
}

func bad(task, kase int) api.Wake {
	return api.Wake{Task: task, Case: kase, Panic: true}
}

// made is one of that size.
func made(t *testing.T, size int) *chanq.Chan {
	t.Helper()
	c, e := chanq.New(size)
	if c == nil || e != api.OK {
		t.Fatalf("New(%d): %v %d", size, c, e)
	}
	return c
}

// full is one of that size, with as many values: v, and on.
func full(t *testing.T, size, v int) *chanq.Chan {
	t.Helper()
	c := made(t, size)
	for i := range size {
		sends(t, c, v+i)
	}
	return c
}

// sends tells where a Send is not done, or refused, as it should be; wakes are whom it wakes.
func sends(t *testing.T, c channel, v int, wakes ...api.Wake) {
	t.Helper()
	if done, l, e := c.Send(v); !done || e != api.OK || !slices.Equal(l, wakes) {
		t.Fatalf("Send(%d): %v %v %d, not done with %v", v, done, l, e, wakes)
	}
}

func sendsNot(t *testing.T, c channel, v int, want api.Errno) {
	t.Helper()
	if done, l, e := c.Send(v); done || len(l) > 0 || e != want {
		t.Fatalf("Send(%d): %v %v %d, not %d", v, done, l, e, want)
	}
}

// receives tells where a Recv is not answered with that value, recvOver where not as of what is closed, recvNot where it is
// done.
func receives(t *testing.T, c channel, v int, wakes ...api.Wake) {
	t.Helper()
	if got, ok, done, l := c.Recv(); got != v || !ok || !done || !slices.Equal(l, wakes) {
		t.Fatalf("Recv: %d %v %v %v, not %d with %v", got, ok, done, l, v, wakes)
	}
}

func recvOver(t *testing.T, c channel) {
	t.Helper()
	if got, ok, done, l := c.Recv(); got != 0 || ok || !done || len(l) > 0 {
		t.Fatalf("Recv of a closed one: %d %v %v %v", got, ok, done, l)
	}
}

func recvNot(t *testing.T, c channel) {
	t.Helper()
	if got, ok, done, l := c.Recv(); got != 0 || ok || done || len(l) > 0 {
		t.Fatalf("Recv: %d %v %v %v, not none", got, ok, done, l)
	}
}

// closes tells where a Close is not answered with those wakes, closesNot where it is not refused so.
func closes(t *testing.T, c channel, wakes ...api.Wake) {
	t.Helper()
	if l, e := c.Close(); e != api.OK || !slices.Equal(l, wakes) {
		t.Fatalf("Close: %v %d, not %v", l, e, wakes)
	}
}

func closesNot(t *testing.T, c channel, want api.Errno) {
	t.Helper()
	if l, e := c.Close(); e != want || len(l) > 0 {
		t.Fatalf("Close: %v %d, not %d", l, e, want)
	}
}

// waits tells where a Wait is not answered so.
func waits(t *testing.T, c channel, w api.Wait, send bool, want api.Errno) {
	t.Helper()
	if e := c.Wait(w, send); e != want {
		t.Fatalf("Wait(%v, %v): %d, not %d", w, send, e, want)
	}
}

// line has all of those wait.
func line(t *testing.T, c channel, send bool, l ...api.Wait) {
	t.Helper()
	for _, w := range l {
		waits(t, c, w, send, api.OK)
	}
}

// waiting tells where not those wait.
func waiting(t *testing.T, c channel, send bool, want ...api.Wait) {
	t.Helper()
	if got := c.Waiting(send); !slices.Equal(got, want) {
		t.Fatalf("Waiting(%v): %v, not %v", send, got, want)
	}
}

// removed tells where a task's going is not answered so.
func removed(t *testing.T, c channel, task, want int) {
	t.Helper()
	if got := c.Remove(task); got != want {
		t.Fatalf("Remove(%d): %d, not %d", task, got, want)
	}
}

// puts tells where a Put is not answered so.
func puts(t *testing.T, c channel, v int, kept bool, wakes ...api.Wake) {
	t.Helper()
	if l, is := c.Put(v); is != kept || !slices.Equal(l, wakes) {
		t.Fatalf("Put(%d): %v %v, not %v %v", v, l, is, wakes, kept)
	}
}

// drops tells where a Drop is not answered so.
func drops(t *testing.T, c channel, want bool) {
	t.Helper()
	if got := c.Drop(); got != want {
		t.Fatalf("Drop: %v", got)
	}
}

// ends tells where an End is not answered with those wakes.
func ends(t *testing.T, c channel, wakes ...api.Wake) {
	t.Helper()
	if l := c.End(); !slices.Equal(l, wakes) {
		t.Fatalf("End: %v, not %v", l, wakes)
	}
}

// can tells where a channel can not send and receive as it should.
func can(t *testing.T, c channel, send, receive bool) {
	t.Helper()
	if s, r := c.Can(true), c.Can(false); s != send || r != receive {
		t.Fatalf("Can: %v %v, not %v %v", s, r, send, receive)
	}
}

// is tells where a channel has not so many values, that size, or is not closed as it should be.
func is(t *testing.T, c channel, length, size int, closed bool) {
	t.Helper()
	if l, s, cl := c.Len(), c.Cap(), c.Closed(); l != length || s != size || cl != closed {
		t.Fatalf("Len, Cap, Closed: %d %d %v, not %d %d %v", l, s, cl, length, size, closed)
	}
}

// numbers are some at their edges.
func numbers() []int {
	return []int{
		math.MinInt, math.MinInt + 1, -api.MaxTime - 1, -api.MaxTime, -1<<32 - 1, -1 << 32, -1<<32 + 1, math.MinInt32,
		-65, -64, -63, -2, -1, 0, 1, 2, 63, 64, 65, 1 << 16, math.MaxInt32, 1<<32 - 1, 1 << 32, 1<<32 + 1,
		api.MaxTime, api.MaxTime + 1, math.MaxInt - 1, math.MaxInt,
	}
}

func TestP9_1NewIsOfASize(t *testing.T) {
	for size := range api.MaxCap + 1 {
		c := made(t, size)
		is(t, c, 0, size, false)
		can(t, c, size > 0, false)
		recvNot(t, c)
		waiting(t, c, true)
		waiting(t, c, false)
		is(t, c, 0, size, false)
	}
}

func TestP9_1NewOfAWrongSize(t *testing.T) {
	for _, size := range numbers() {
		if size >= 0 && size <= 64 {
			continue
		}
		if c, e := chanq.New(size); c != nil || e != api.ErrArg {
			t.Errorf("New(%d): %v %d", size, c, e)
		}
	}
}

func TestP9_1TheExample(t *testing.T) {
	c := made(t, 1)
	sends(t, c, 1)
	sendsNot(t, c, 2, api.OK)
	is(t, c, 1, 1, false)
	receives(t, c, 1)
	recvNot(t, c)
}

func TestP9_1SendWhileThereIsRoom(t *testing.T) {
	for size := range api.MaxCap + 1 {
		c := made(t, size)
		for i := range size {
			is(t, c, i, size, false)
			can(t, c, true, i > 0)
			sends(t, c, 100+i)
		}
		for range 2 {
			can(t, c, false, size > 0)
			sendsNot(t, c, 7, api.OK)
			is(t, c, size, size, false)
		}
		for i := range size {
			receives(t, c, 100+i)
			is(t, c, size-i-1, size, false)
			can(t, c, true, i < size-1)
		}
		for range 2 {
			recvNot(t, c)
		}
	}
}

// The places of the values go round: one stays ahead while others come and go.
func TestP9_1ValuesInOrderRoundAndRound(t *testing.T) {
	for _, size := range []int{1, 2, 3, 63, 64} {
		c := full(t, size, 0)
		for i := range 3 * size {
			receives(t, c, i)
			sends(t, c, size+i)
			sendsNot(t, c, -1, api.OK)
		}
	}
}

func TestP9_1SendIsHandedToTheFirstWhoWaits(t *testing.T) {
	for _, size := range []int{0, 1, 2, 64} {
		c := made(t, size)
		l := []api.Wait{one(4, 2, 0), one(2, 0, 0), one(3, 15, 0), one(4, 1, 0)}
		line(t, c, false, l...)
		for i, w := range l {
			can(t, c, true, false)
			sends(t, c, 50+i, got(w.Task, w.Case, 50+i))
			waiting(t, c, false, l[i+1:]...)
			is(t, c, 0, size, false)
		}
		can(t, c, size > 0, false)
		recvNot(t, c)
	}
}

func TestP9_1RecvMakesRoomForTheFirstWhoWaits(t *testing.T) {
	for _, size := range []int{1, 2, 3, 64} {
		c := full(t, size, 0)
		l := []api.Wait{one(4, 2, size), one(2, 0, size+1), one(3, 15, size+2), one(4, 1, size+3)}
		line(t, c, true, l...)
		for i, w := range l {
			can(t, c, false, true)
			sendsNot(t, c, -1, api.OK)
			receives(t, c, i, sent(w.Task, w.Case))
			waiting(t, c, true, l[i+1:]...)
			is(t, c, size, size, false)
		}
		for i := range size {
			receives(t, c, len(l)+i)
		}
		recvNot(t, c)
	}
}

func TestP9_1RecvOfTheFirstWhoWaits(t *testing.T) {
	c := made(t, 0)
	l := []api.Wait{one(4, 2, 70), one(2, 0, 0), one(3, 15, -7), one(4, 1, 71)}
	line(t, c, true, l...)
	for i, w := range l {
		can(t, c, false, true)
		sendsNot(t, c, 9, api.OK)
		receives(t, c, w.Value, sent(w.Task, w.Case))
		waiting(t, c, true, l[i+1:]...)
		is(t, c, 0, 0, false)
	}
	can(t, c, false, false)
	recvNot(t, c)
}

func TestP9_1AllNumbersMayBe(t *testing.T) {
	for _, v := range numbers() {
		c := made(t, 1)
		sends(t, c, v)
		line(t, c, true, one(v, v, v))
		receives(t, c, v, sent(v, v))
		receives(t, c, v)
		line(t, c, false, one(v, v, 0))
		sends(t, c, v, got(v, v, v))
		c = made(t, 0)
		line(t, c, true, one(v, v, v))
		receives(t, c, v, sent(v, v))
		line(t, c, true, one(v, v, v))
		closes(t, c, bad(v, v))
		c = made(t, 0)
		line(t, c, false, one(v, v, v))
		closes(t, c, over(v, v))
		timer := chanq.Timed()
		puts(t, timer, v, true)
		receives(t, timer, v)
		line(t, timer, false, one(v, v, 0))
		puts(t, timer, v, true, got(v, v, v))
	}
}

func TestP9_1ValuesStayWhenItIsClosed(t *testing.T) {
	for _, size := range []int{0, 1, 2, 64} {
		for n := range size + 1 {
			c := made(t, size)
			for i := range n {
				sends(t, c, 10+i)
			}
			closes(t, c)
			for i := range n {
				is(t, c, n-i, size, true)
				can(t, c, true, true)
				sendsNot(t, c, 5, api.ErrClosed)
				closesNot(t, c, api.ErrClosed)
				receives(t, c, 10+i)
			}
			for range 2 {
				recvOver(t, c)
				can(t, c, true, true)
				is(t, c, 0, size, true)
				sendsNot(t, c, 5, api.ErrClosed)
				closesNot(t, c, api.ErrClosed)
			}
		}
	}
}

func TestP9_1CloseWakesWhoReceives(t *testing.T) {
	for _, size := range []int{0, 1, 64} {
		c := made(t, size)
		line(t, c, false, one(5, 1, 0), one(3, 2, 9), one(4, 0, 0))
		closes(t, c, over(5, 1), over(3, 2), over(4, 0))
		waiting(t, c, false)
		recvOver(t, c)
		removed(t, c, 5, 0)
	}
}

func TestP9_1CloseWakesWhoSends(t *testing.T) {
	for _, size := range []int{0, 1, 64} {
		c := full(t, size, 0)
		line(t, c, true, one(5, 1, 100), one(3, 2, 101), one(4, 0, 102))
		closes(t, c, bad(5, 1), bad(3, 2), bad(4, 0))
		waiting(t, c, true)
		is(t, c, size, size, true)
		// What they would have sent is not there.
		for i := range size {
			receives(t, c, i)
		}
		recvOver(t, c)
		removed(t, c, 3, 0)
	}
}

func TestP9_1CloseWakesEachTaskOnce(t *testing.T) {
	c := made(t, 0)
	line(t, c, false, one(5, 3, 0), one(3, 2, 0), one(5, 1, 0), one(3, 0, 0), one(0, 4, 0), one(5, 3, 0))
	closes(t, c, over(5, 3), over(3, 2), over(0, 4))
	waiting(t, c, false)

	c = full(t, 2, 0)
	line(t, c, true, one(0, 3, 1), one(0, 2, 2), one(-1, 1, 3), one(0, 0, 4), one(-1, 4, 5))
	closes(t, c, bad(0, 3), bad(-1, 1))
	waiting(t, c, true)

	// Of a task that waits on both sides, it is the side of those who receive, whichever came first.
	for _, sendsFirst := range []bool{false, true} {
		c = made(t, 0)
		line(t, c, sendsFirst, one(7, 0, 1), one(7, 2, 2))
		line(t, c, !sendsFirst, one(7, 1, 3), one(7, 3, 4))
		kase := 1
		if !sendsFirst {
			kase = 0
		}
		closes(t, c, over(7, kase))
		waiting(t, c, true)
		waiting(t, c, false)
		removed(t, c, 7, 0)
	}
}

func TestP9_1CloseOfMany(t *testing.T) {
	c, timer := made(t, 0), chanq.Signal()
	var wakes []api.Wake
	for i := range 3000 {
		// A task has three waits, far from each other.
		task := i % 1000
		line(t, c, false, one(task, i, 0))
		line(t, timer, false, one(task, i, 0))
		if i < 1000 {
			wakes = append(wakes, over(task, i))
		}
	}
	closes(t, c, wakes...)
	ends(t, timer, wakes...)
	waiting(t, c, false)
	waiting(t, timer, false)
}

func TestP9_1KindsAreNotSentOnNorClosed(t *testing.T) {
	timer, context := chanq.Timed(), chanq.Signal()
	for range 2 {
		for _, c := range []*chanq.Chan{timer, context} {
			sendsNot(t, c, 1, api.ErrKind)
			closesNot(t, c, api.ErrKind)
			recvNot(t, c)
			is(t, c, 0, 0, false)
		}
	}
	puts(t, timer, 3, true)
	sendsNot(t, timer, 1, api.ErrKind)
	closesNot(t, timer, api.ErrKind)
	receives(t, timer, 3)
	ends(t, context)
	sendsNot(t, context, 1, api.ErrKind)
	closesNot(t, context, api.ErrKind)
	is(t, context, 0, 0, true)
	// Not those who wait get it either.
	timer = chanq.Timed()
	line(t, timer, false, one(1, 2, 0))
	sendsNot(t, timer, 1, api.ErrKind)
	closesNot(t, timer, api.ErrKind)
	waiting(t, timer, false, one(1, 2, 0))
}

func TestP9_2WaitBehindAll(t *testing.T) {
	l := []api.Wait{one(4, 2, 1), one(2, 0, 2), one(4, 2, 1), one(9, 15, 0), one(4, 0, -1)}
	for _, send := range []bool{false, true} {
		for _, size := range []int{0, 1, 64} {
			c := made(t, size)
			if send {
				c = full(t, size, 0)
			}
			for i, w := range l {
				waiting(t, c, send, l[:i]...)
				waits(t, c, w, send, api.OK)
				waiting(t, c, !send)
			}
			waiting(t, c, send, l...)
		}
	}
}

func TestP9_2WaitIsRefused(t *testing.T) {
	w := one(1, 2, 3)
	var none *chanq.Chan
	timer, context, closed, over := chanq.Timed(), chanq.Signal(), full(t, 1, 5), chanq.Signal()
	closes(t, closed)
	ends(t, over)
	kept := chanq.Timed()
	puts(t, kept, 5, true)
	for _, c := range []struct {
		what    string
		c       *chanq.Chan
		send    api.Errno
		receive api.Errno
	}{
		{"nil", none, api.ErrNil, api.ErrNil},
		{"closed", closed, api.ErrClosed, api.ErrClosed},
		{"a context's", context, api.ErrKind, api.OK},
		{"a context's that is closed", over, api.ErrKind, api.ErrClosed},
		{"a timer's", timer, api.ErrKind, api.OK},
		{"a timer's with a value", kept, api.ErrKind, api.ErrArg},
		{"without room", made(t, 0), api.OK, api.OK},
		{"empty", made(t, 2), api.ErrArg, api.OK},
		{"full", full(t, 2, 0), api.OK, api.ErrArg},
	} {
		for _, s := range []struct {
			send bool
			want api.Errno
		}{{true, c.send}, {false, c.receive}} {
			if e := c.c.Wait(w, s.send); e != s.want {
				t.Errorf("Wait of %s, %v: %d, not %d", c.what, s.send, e, s.want)
			}
			want := 0
			if s.want == api.OK {
				want = 1
			}
			if n := len(c.c.Waiting(s.send)); n != want {
				t.Errorf("Wait of %s, %v: %d wait", c.what, s.send, n)
			}
			c.c.Remove(w.Task)
		}
	}
	c := made(t, 2)
	sends(t, c, 0)
	waits(t, c, w, true, api.ErrArg)
	waits(t, c, w, false, api.ErrArg)
}

func TestP9_2WaitWhereAnotherWaits(t *testing.T) {
	for _, send := range []bool{false, true} {
		c := made(t, 0)
		line(t, c, send, one(1, 0, 5))
		waits(t, c, one(2, 0, 6), !send, api.ErrArg)
		waits(t, c, one(0, 0, 6), !send, api.ErrArg)
		waits(t, c, one(-1, 0, 6), !send, api.ErrArg)
		waits(t, c, one(1<<32+1, 0, 6), !send, api.ErrArg)
		waiting(t, c, !send)
		waiting(t, c, send, one(1, 0, 5))
		// Another one of the same side does wait; then the first one's own waits are not the only ones.
		line(t, c, send, one(2, 0, 6))
		waits(t, c, one(1, 1, 7), !send, api.ErrArg)
		waits(t, c, one(2, 1, 7), !send, api.ErrArg)
		removed(t, c, 1, 1)
		waits(t, c, one(1, 1, 7), !send, api.ErrArg)
		waits(t, c, one(2, 1, 7), !send, api.OK)
		waiting(t, c, !send, one(2, 1, 7))
	}
}

// A task can't hand over to itself, so its own waits on the other side do not count.
func TestP9_2WaitOnBothSides(t *testing.T) {
	for _, send := range []bool{false, true} {
		c := made(t, 0)
		line(t, c, send, one(1, 0, 5), one(1, 1, 6))
		line(t, c, !send, one(1, 2, 7))
		line(t, c, send, one(1, 3, 8))
		waiting(t, c, send, one(1, 0, 5), one(1, 1, 6), one(1, 3, 8))
		waiting(t, c, !send, one(1, 2, 7))
		can(t, c, true, true)
		for _, s := range []bool{false, true} {
			waits(t, c, one(2, 0, 9), s, api.ErrArg)
		}
		removed(t, c, 1, 4)
		can(t, c, false, false)
		line(t, c, !send, one(2, 0, 9))
	}
	c := made(t, 0)
	line(t, c, true, one(1, 0, 5))
	line(t, c, false, one(1, 1, 0))
	sends(t, c, 8, got(1, 1, 8))
	waiting(t, c, true, one(1, 0, 5))
	receives(t, c, 5, sent(1, 0))
	can(t, c, false, false)
	// Room and values count, whoever waits.
	c = made(t, 1)
	line(t, c, false, one(1, 0, 0))
	waits(t, c, one(1, 1, 5), true, api.ErrArg)
	c = full(t, 1, 0)
	line(t, c, true, one(1, 0, 0))
	waits(t, c, one(1, 1, 0), false, api.ErrArg)
}

func TestP9_2RemoveTakesAllOfATask(t *testing.T) {
	for _, send := range []bool{false, true} {
		c := made(t, 0)
		line(t, c, send, one(1, 0, 0), one(2, 1, 0), one(1, 2, 0), one(3, 3, 0), one(1, 4, 0))
		removed(t, c, 4, 0)
		removed(t, c, -1, 0)
		removed(t, c, 0, 0)
		removed(t, c, 1, 3)
		waiting(t, c, send, one(2, 1, 0), one(3, 3, 0))
		removed(t, c, 1, 0)
		line(t, c, send, one(1, 5, 0))
		waiting(t, c, send, one(2, 1, 0), one(3, 3, 0), one(1, 5, 0))
		removed(t, c, 3, 1)
		removed(t, c, 2, 1)
		removed(t, c, 1, 1)
		waiting(t, c, send)
		can(t, c, false, false)
	}
	// Who is gone gets nothing, and sends nothing.
	c := full(t, 1, 5)
	line(t, c, true, one(1, 0, 6), one(2, 0, 7))
	removed(t, c, 1, 1)
	receives(t, c, 5, sent(2, 0))
	receives(t, c, 7)
	line(t, c, false, one(1, 0, 0), one(2, 0, 0))
	removed(t, c, 2, 1)
	sends(t, c, 8, got(1, 0, 8))
	sends(t, c, 9)
	for _, k := range []*chanq.Chan{chanq.Timed(), chanq.Signal()} {
		line(t, k, false, one(1, 0, 0), one(2, 1, 0), one(1, 2, 0))
		removed(t, k, 1, 2)
		waiting(t, k, false, one(2, 1, 0))
	}
}

func TestP9_2CanTellsWhatNeedNotWait(t *testing.T) {
	closed := made(t, 0)
	closes(t, closed)
	timer, over := chanq.Timed(), chanq.Signal()
	puts(t, timer, 0, true)
	ends(t, over)
	received, sending, waitsTimer := made(t, 0), made(t, 0), chanq.Timed()
	line(t, received, false, one(0, 0, 0))
	line(t, sending, true, one(0, 0, 0))
	line(t, waitsTimer, false, one(0, 0, 0))
	waitsSignal := chanq.Signal()
	line(t, waitsSignal, false, one(0, 0, 0))
	half := made(t, 2)
	sends(t, half, 0)
	for _, c := range []struct {
		what          string
		c             *chanq.Chan
		send, receive bool
	}{
		{"nil", nil, false, false},
		{"without room", made(t, 0), false, false},
		{"empty", made(t, 1), true, false},
		{"half full", half, true, true},
		{"full", full(t, 1, 0), false, true},
		{"closed", closed, true, true},
		{"received of", received, true, false},
		{"sent on", sending, false, true},
		{"a timer's", chanq.Timed(), false, false},
		{"a timer's with a value", timer, false, true},
		{"a timer's received of", waitsTimer, false, false},
		{"a context's", chanq.Signal(), false, false},
		{"a context's that is closed", over, false, true},
		{"a context's received of", waitsSignal, false, false},
	} {
		for range 2 {
			if s, r := c.c.Can(true), c.c.Can(false); s != c.send || r != c.receive {
				t.Errorf("Can of %s: %v %v", c.what, s, r)
			}
		}
	}
}

func TestP9_3TimedHasRoomForOne(t *testing.T) {
	c := chanq.Timed()
	for i := range 3 {
		can(t, c, false, false)
		recvNot(t, c)
		drops(t, c, false)
		puts(t, c, 10+i, true)
		for range 2 {
			can(t, c, false, true)
			is(t, c, 0, 0, false)
			puts(t, c, 5, false)
		}
		receives(t, c, 10+i)
	}
	for i := range 3 {
		puts(t, c, 20+i, true)
		drops(t, c, true)
		drops(t, c, false)
		recvNot(t, c)
		can(t, c, false, false)
	}
	puts(t, c, 30, true)
	receives(t, c, 30)
	drops(t, c, false)
	is(t, c, 0, 0, false)
	ends(t, c)
	is(t, c, 0, 0, false)
	// 0 is a value too.
	puts(t, c, 0, true)
	puts(t, c, 1, false)
	receives(t, c, 0)
}

func TestP9_3PutIsHandedToTheFirstWhoWaits(t *testing.T) {
	c := chanq.Timed()
	line(t, c, false, one(4, 2, 0), one(2, 0, 0), one(4, 1, 0))
	puts(t, c, 7, true, got(4, 2, 7))
	waiting(t, c, false, one(2, 0, 0), one(4, 1, 0))
	recvNot(t, c)
	drops(t, c, false)
	removed(t, c, 2, 1)
	puts(t, c, 0, true, got(4, 1, 0))
	waiting(t, c, false)
	puts(t, c, 8, true)
	puts(t, c, 9, false)
	waits(t, c, one(1, 0, 0), false, api.ErrArg)
	receives(t, c, 8)
	line(t, c, false, one(1, 0, 0))
	drops(t, c, false)
	waiting(t, c, false, one(1, 0, 0))
	puts(t, c, 9, true, got(1, 0, 9))
}

func TestP9_3PutAndDropOfATimedOneAlone(t *testing.T) {
	closed, over := full(t, 1, 5), chanq.Signal()
	closes(t, closed)
	ends(t, over)
	for _, c := range []*chanq.Chan{nil, made(t, 0), made(t, 1), full(t, 2, 0), chanq.Signal(), closed, over} {
		was := c.Len()
		puts(t, c, 7, false)
		drops(t, c, false)
		if got := c.Len(); got != was {
			t.Errorf("%d values, not %d", got, was)
		}
	}
	receives(t, closed, 5)
	for _, c := range []*chanq.Chan{made(t, 0), made(t, 1), chanq.Signal()} {
		line(t, c, false, one(1, 0, 0))
		puts(t, c, 7, false)
		drops(t, c, false)
		waiting(t, c, false, one(1, 0, 0))
	}
}

func TestP9_3EndOfASignalOneAlone(t *testing.T) {
	c := chanq.Signal()
	line(t, c, false, one(5, 3, 0), one(3, 2, 1), one(5, 1, 0), one(0, 4, 0), one(3, 2, 0))
	is(t, c, 0, 0, false)
	recvNot(t, c)
	waits(t, c, one(1, 0, 0), true, api.ErrKind)
	ends(t, c, over(5, 3), over(3, 2), over(0, 4))
	for range 2 {
		waiting(t, c, false)
		is(t, c, 0, 0, true)
		recvOver(t, c)
		ends(t, c)
		can(t, c, false, true)
	}
	for _, size := range []int{0, 1} {
		c := full(t, size, 5)
		line(t, c, true, one(1, 0, 6))
		ends(t, c)
		is(t, c, size, size, false)
		waiting(t, c, true, one(1, 0, 6))
		closes(t, c, bad(1, 0))
		ends(t, c)
		is(t, c, size, size, true)
	}
	timer := chanq.Timed()
	line(t, timer, false, one(1, 0, 0))
	ends(t, timer)
	is(t, timer, 0, 0, false)
	waiting(t, timer, false, one(1, 0, 0))
	var none *chanq.Chan
	ends(t, none)
}

func TestP9_3NilChan(t *testing.T) {
	var c *chanq.Chan
	for range 2 {
		sendsNot(t, c, 1, api.OK)
		recvNot(t, c)
		closesNot(t, c, api.ErrNil)
		waits(t, c, one(1, 2, 3), true, api.ErrNil)
		waits(t, c, one(1, 2, 3), false, api.ErrNil)
		removed(t, c, 1, 0)
		can(t, c, false, false)
		puts(t, c, 1, false)
		drops(t, c, false)
		ends(t, c)
		is(t, c, 0, 0, false)
		waiting(t, c, true)
		waiting(t, c, false)
	}
}

// A Chan that New did not make is one without room, and none of its calls panics.
func TestP9_3ChanOfNoMaking(t *testing.T) {
	var c chanq.Chan
	is(t, &c, 0, 0, false)
	can(t, &c, false, false)
	sendsNot(t, &c, 1, api.OK)
	recvNot(t, &c)
	puts(t, &c, 1, false)
	drops(t, &c, false)
	ends(t, &c)
	line(t, &c, true, one(1, 0, 5))
	receives(t, &c, 5, sent(1, 0))
	line(t, &c, false, one(1, 0, 5), one(2, 0, 0))
	sends(t, &c, 6, got(1, 0, 6))
	removed(t, &c, 2, 1)
	closes(t, &c)
	recvOver(t, &c)
}

// model is a channel as the chapter's words have it, in plain lists.
type model struct {
	kind     string // "", "plain", "timed" or "signal"; "" is a nil one
	room     int
	values   []int
	sender   []api.Wait
	receiver []api.Wait
	closed   bool
}

func (m *model) Send(v int) (bool, []api.Wake, api.Errno) {
	if m.kind == "" {
		return false, nil, api.OK
	}
	if m.kind != "plain" {
		return false, nil, api.ErrKind
	}
	if m.closed {
		return false, nil, api.ErrClosed
	}
	if len(m.receiver) > 0 {
		w := m.receiver[0]
		m.receiver = m.receiver[1:]
		return true, []api.Wake{got(w.Task, w.Case, v)}, api.OK
	}
	if len(m.values) < m.room {
		m.values = append(m.values, v)
		return true, nil, api.OK
	}
	return false, nil, api.OK
}

func (m *model) Recv() (int, bool, bool, []api.Wake) {
	var wakes []api.Wake
	line := m.values
	if len(m.sender) > 0 && m.kind == "plain" {
		// The one who waits comes behind all that are there, be it none, and then the first one goes.
		w := m.sender[0]
		m.sender = m.sender[1:]
		line = append(line, w.Value)
		wakes = []api.Wake{sent(w.Task, w.Case)}
	}
	if len(line) == 0 {
		return 0, false, m.closed, nil
	}
	m.values = line[1:]
	return line[0], true, true, wakes
}

func (m *model) Close() ([]api.Wake, api.Errno) {
	switch {
	case m.kind == "":
		return nil, api.ErrNil
	case m.kind != "plain":
		return nil, api.ErrKind
	case m.closed:
		return nil, api.ErrClosed
	}
	return m.shut(), api.OK
}

func (m *model) shut() []api.Wake {
	m.closed = true
	var wakes []api.Wake
	add := func(w api.Wake) {
		if !slices.ContainsFunc(wakes, func(o api.Wake) bool { return o.Task == w.Task }) {
			wakes = append(wakes, w)
		}
	}
	for _, w := range m.receiver {
		add(over(w.Task, w.Case))
	}
	for _, w := range m.sender {
		add(bad(w.Task, w.Case))
	}
	m.sender, m.receiver = nil, nil
	return wakes
}

func (m *model) Wait(w api.Wait, send bool) api.Errno {
	own := func(o api.Wait) bool { return o.Task == w.Task }
	others := model{kind: m.kind, room: m.room, values: m.values, closed: m.closed,
		sender:   slices.DeleteFunc(slices.Clone(m.sender), own),
		receiver: slices.DeleteFunc(slices.Clone(m.receiver), own),
	}
	switch {
	case m.kind == "":
		return api.ErrNil
	case send && m.kind != "plain":
		return api.ErrKind
	case m.closed:
		return api.ErrClosed
	case others.Can(send):
		return api.ErrArg
	case send:
		m.sender = append(m.sender, w)
	default:
		m.receiver = append(m.receiver, w)
	}
	return api.OK
}

func (m *model) Remove(task int) int {
	were := len(m.sender) + len(m.receiver)
	own := func(w api.Wait) bool { return w.Task == task }
	m.sender = slices.DeleteFunc(slices.Clone(m.sender), own)
	m.receiver = slices.DeleteFunc(slices.Clone(m.receiver), own)
	return were - len(m.sender) - len(m.receiver)
}

// Can tries it on a copy.
func (m *model) Can(send bool) bool {
	copied := *m
	copied.values, copied.sender = slices.Clone(m.values), slices.Clone(m.sender)
	if send {
		done, _, e := copied.Send(0)
		return done || e == api.ErrClosed
	}
	_, _, done, _ := copied.Recv()
	return done
}

func (m *model) Put(v int) ([]api.Wake, bool) {
	switch {
	case m.kind != "timed":
		return nil, false
	case len(m.receiver) > 0:
		w := m.receiver[0]
		m.receiver = m.receiver[1:]
		return []api.Wake{got(w.Task, w.Case, v)}, true
	case len(m.values) > 0:
		return nil, false
	}
	m.values = []int{v}
	return nil, true
}

func (m *model) Drop() bool {
	had := m.kind == "timed" && len(m.values) > 0
	if had {
		m.values = nil
	}
	return had
}

func (m *model) End() []api.Wake {
	if m.kind != "signal" || m.closed {
		return nil
	}
	return m.shut()
}

func (m *model) Len() int {
	if m.kind == "timed" {
		return 0
	}
	return len(m.values)
}

func (m *model) Cap() int {
	if m.kind == "timed" {
		return 0
	}
	return m.room
}

func (m *model) Closed() bool { return m.closed }

func (m *model) Waiting(send bool) []api.Wait {
	if send {
		return m.sender
	}
	return m.receiver
}

// step is one of what can be done with a channel.
type step struct {
	do   string
	wait api.Wait
	send bool
}

// told is all that a step is answered with.
type told struct {
	v, n     int
	ok, done bool
	wakes    []api.Wake
	e        api.Errno
}

// done does a step; v is what it sends.
func (s step) done(c channel, v int) told {
	var a told
	switch s.do {
	case "send":
		a.done, a.wakes, a.e = c.Send(v)
	case "recv":
		a.v, a.ok, a.done, a.wakes = c.Recv()
	case "close":
		a.wakes, a.e = c.Close()
	case "wait":
		s.wait.Value = v
		a.e = c.Wait(s.wait, s.send)
	case "remove":
		a.n = c.Remove(s.wait.Task)
	case "put":
		a.wakes, a.done = c.Put(v)
	case "drop":
		a.done = c.Drop()
	case "end":
		a.wakes = c.End()
	}
	return a
}

// same tells whether two answers are.
func (a told) same(b told) bool {
	return a.v == b.v && a.n == b.n && a.ok == b.ok && a.done == b.done && a.e == b.e && slices.Equal(a.wakes, b.wakes)
}

// pair is a channel, and the model of it.
type pair struct {
	what string
	c    *chanq.Chan
	m    *model
	did  []string
}

// pairs are new ones of each kind, and of those sizes.
func pairs(t *testing.T, sizes ...int) []pair {
	t.Helper()
	l := []pair{
		{what: "nil", m: &model{}},
		{what: "timed", c: chanq.Timed(), m: &model{kind: "timed"}},
		{what: "signal", c: chanq.Signal(), m: &model{kind: "signal"}},
	}
	for _, size := range sizes {
		l = append(l, pair{what: fmt.Sprintf("of %d", size), c: made(t, size), m: &model{kind: "plain", room: size}})
	}
	return l
}

// do does a step to both, and holds what they tell against each other, and what they can be asked for.
func (p *pair) do(t *testing.T, s step, v int) told {
	t.Helper()
	got, want := s.done(p.c, v), s.done(p.m, v)
	p.did = append(p.did, fmt.Sprintf("%s %v %v", s.do, s.wait, s.send))
	if !got.same(want) {
		t.Fatalf("%s: %v: %v, not %v", p.what, p.did, got, want)
	}
	p.holds(t)
	return got
}

func (p *pair) holds(t *testing.T) {
	t.Helper()
	c, m := p.c, p.m
	if c.Len() != m.Len() || c.Cap() != m.Cap() || c.Closed() != m.Closed() {
		t.Fatalf("%s: %v: Len, Cap, Closed: %d %d %v", p.what, p.did, c.Len(), c.Cap(), c.Closed())
	}
	for _, send := range []bool{false, true} {
		if c.Can(send) != m.Can(send) {
			t.Fatalf("%s: %v: Can(%v): %v", p.what, p.did, send, c.Can(send))
		}
		if !slices.Equal(c.Waiting(send), m.Waiting(send)) {
			t.Fatalf("%s: %v: Waiting(%v): %v, not %v", p.what, p.did, send, c.Waiting(send), m.Waiting(send))
		}
	}
}

// empty receives all that is there, so that what values there are is seen too.
func (p *pair) empty(t *testing.T) {
	t.Helper()
	for p.do(t, step{do: "recv"}, 0).ok {
		goesOn(t)
	}
}

// fewSteps are those that small channels are tried with.
func fewSteps() []step {
	var l []step
	for _, do := range []string{"send", "recv", "close", "put", "drop", "end"} {
		l = append(l, step{do: do})
	}
	for _, task := range []int{0, 1} {
		l = append(l, step{do: "remove", wait: one(task, 0, 0)})
		for _, send := range []bool{false, true} {
			l = append(l, step{do: "wait", wait: one(task, 2, 0), send: send})
		}
	}
	return l
}

// All that can be done in so many steps, to new ones of each kind.
func TestP9_4EachRowOfSteps(t *testing.T) {
	steps, most := fewSteps(), 4
	rows := 1
	for range most {
		rows *= len(steps)
	}
	for row := range rows {
		for _, p := range pairs(t, 0, 1, 2) {
			for v, rest := 0, row; v < most; v, rest = v+1, rest/len(steps) {
				p.do(t, steps[rest%len(steps)], 10+v)
			}
			p.empty(t)
		}
	}
}

// anyStep is one by chance: of some tasks and cases, and now and then one that ends what was there.
func anyStep(r *rand.Rand, tasks int) step {
	s := step{wait: one(r.Intn(tasks), r.Intn(3), 0), send: r.Intn(2) == 0}
	switch n := r.Intn(200); {
	case n < 50:
		s.do = "send"
	case n < 100:
		s.do = "recv"
	case n < 150:
		s.do = "wait"
	case n < 170:
		s.do = "remove"
	case n < 190:
		s.do = "put"
	case n < 198:
		s.do = "drop"
	case n < 199:
		s.do = "close"
	default:
		s.do = "end"
	}
	return s
}

func TestP9_4WalksByChance(t *testing.T) {
	r := rand.New(rand.NewSource(9))
	for walk := range 150 {
		for _, p := range pairs(t, 0, 1, 2, 3, 64) {
			tasks := 1 + walk%6
			for v := range 200 {
				p.do(t, anyStep(r, tasks), v)
			}
			p.empty(t)
		}
	}
}

// What tasks would see: who is woken waits nowhere else, as whoever uses a channel has it.
func TestP9_4ReceivedIsWhatWasSent(t *testing.T) {
	r := rand.New(rand.NewSource(99))
	for _, size := range []int{0, 1, 2, 5, 64} {
		for range 40 {
			c := made(t, size)
			var sentOnes, gotOnes []int
			sending := map[int]int{}
			waitsAt := map[int]bool{}
			woken := func(wakes []api.Wake) {
				for _, w := range wakes {
					delete(waitsAt, w.Task)
					if v, is := sending[w.Task]; is {
						sentOnes = append(sentOnes, v)
						delete(sending, w.Task)
						continue
					}
					gotOnes = append(gotOnes, w.Value)
				}
			}
			for v := range 400 {
				task := r.Intn(10)
				if waitsAt[task] {
					continue
				}
				if r.Intn(2) == 0 {
					done, wakes, _ := c.Send(v)
					if done {
						sentOnes = append(sentOnes, v)
					} else {
						waits(t, c, one(task, 0, v), true, api.OK)
						sending[task], waitsAt[task] = v, true
					}
					woken(wakes)
				} else {
					got, _, done, wakes := c.Recv()
					if done {
						gotOnes = append(gotOnes, got)
					} else {
						waits(t, c, one(task, 0, 0), false, api.OK)
						waitsAt[task] = true
					}
					woken(wakes)
				}
				if n := c.Len(); n > size || len(sentOnes)-len(gotOnes) != n {
					t.Fatalf("of %d: %d values, of %d sent and %d received", size, n, len(sentOnes), len(gotOnes))
				}
				if !slices.Equal(gotOnes, sentOnes[:len(gotOnes)]) {
					t.Fatalf("of %d: received %v of %v", size, gotOnes, sentOnes)
				}
			}
		}
	}
}

// What is answered is not what is kept, its spare room neither.
func TestP9_4AnswersAreNewMemory(t *testing.T) {
	spoil := func(l []api.Wait) {
		l = l[:cap(l)]
		for i := range l {
			l[i] = one(-9, -9, -9)
		}
	}
	c := full(t, 1, 0)
	l := []api.Wait{one(1, 0, 5), one(2, 0, 6), one(3, 1, 7)}
	line(t, c, true, l...)
	spoil(c.Waiting(true))
	waiting(t, c, true, l...)
	a, b := c.Waiting(true), c.Waiting(true)
	spoil(a)
	if !slices.Equal(b, l) {
		t.Errorf("an answer is in another one: %v", b)
	}
	_, _, _, wakes := c.Recv()
	wakes[0] = bad(-9, -9)
	_, _, _, others := c.Recv()
	if want := []api.Wake{sent(2, 0)}; !slices.Equal(others, want) {
		t.Errorf("%v, not %v", others, want)
	}
	closed, _ := c.Close()
	for i := range closed {
		closed[i] = sent(-9, -9)
	}
	receives(t, c, 6)
	recvOver(t, c)
}

func TestP9_4ChansHaveNothingInCommon(t *testing.T) {
	a, b := full(t, 1, 5), full(t, 1, 6)
	line(t, a, true, one(1, 0, 7))
	waiting(t, b, true)
	closes(t, a, bad(1, 0))
	is(t, b, 1, 1, false)
	receives(t, a, 5)
	receives(t, b, 6)
	x, y := chanq.Timed(), chanq.Timed()
	puts(t, x, 1, true)
	drops(t, y, false)
	recvNot(t, y)
	receives(t, x, 1)
	v, w := chanq.Signal(), chanq.Signal()
	line(t, w, false, one(1, 0, 0))
	ends(t, v)
	is(t, w, 0, 0, false)
	ends(t, w, over(1, 0))
}

// A call that is refused, or asks, has changed nothing that a later one tells.
func TestP9_4AskingAndErrorsChangeNothing(t *testing.T) {
	r := rand.New(rand.NewSource(999))
	for range 60 {
		for _, p := range pairs(t, 0, 1, 2) {
			for v := range 60 {
				for _, send := range []bool{false, true} {
					p.c.Can(send)
					p.c.Waiting(send)
				}
				p.c.Len()
				p.c.Cap()
				p.c.Closed()
				if p.c.Closed() || p.what != "of 0" && p.what != "of 1" && p.what != "of 2" {
					// It is refused, whatever else there is.
					p.c.Send(-1)
					p.c.Wait(one(0, 0, -1), true)
					p.c.Close()
				}
				p.do(t, anyStep(r, 3), v)
			}
			p.empty(t)
		}
	}
}
