package choose_test

import (
	"fmt"
	"math"
	"math/rand"
	"slices"
	"testing"

	"tarpaulin/api"
	"tarpaulin/chanq"
	"tarpaulin/choose"
)

// one is a wait of that task and case, that sends v.
func one(task, kase, v int) api.Wait {
	return api.Wait{Task: task, Case: kase, Value: v}
}

// got is the wake of one who receives v, and sent that of one whose value went.
func got(task, kase, v int) api.Wake {
	return api.Wake{Task: task, Case: kase, Value: v, OK: true}
}

func sent(task, kase int) api.Wake {
	return api.Wake{Task: task, Case: kase, OK: true}
}

// out is a case that sends v, and in one that receives; such a Value is nobody's.
func out(c *chanq.Chan, v int) choose.Case {
	return choose.Case{Chan: c, Send: true, Value: v}
}

func in(c *chanq.Chan) choose.Case {
	return choose.Case{Chan: c, Value: 777}
}

// full is one of that size, with as many values: v, and on.
func full(t *testing.T, size, v int) *chanq.Chan {
	t.Helper()
	c := made(t, size)
	for i := range size {
		if done, _, e := c.Send(v + i); !done || e != api.OK {
			t.Fatalf("Send(%d): %v %d", v+i, done, e)
		}
	}
	return c
}

// made is one of that size.
func made(t *testing.T, size int) *chanq.Chan {
	t.Helper()
	c, e := chanq.New(size)
	if c == nil || e != api.OK {
		t.Fatalf("New(%d): %v %d", size, c, e)
	}
	return c
}

// shut is c, closed.
func shut(t *testing.T, c *chanq.Chan) *chanq.Chan {
	t.Helper()
	if _, e := c.Close(); e != api.OK {
		t.Fatalf("Close: %d", e)
	}
	return c
}

// over is a context's that is closed.
func over() *chanq.Chan {
	c := chanq.Signal()
	c.End()
	return c
}

// due is a timer's with that value.
func due(v int) *chanq.Chan {
	c := chanq.Timed()
	c.Put(v)
	return c
}

// line has all of those wait at c.
func line(t *testing.T, c *chanq.Chan, send bool, l ...api.Wait) *chanq.Chan {
	t.Helper()
	for _, w := range l {
		if e := c.Wait(w, send); e != api.OK {
			t.Fatalf("Wait(%v, %v): %d", w, send, e)
		}
	}
	return c
}

// waiting tells where not those wait.
func waiting(t *testing.T, c *chanq.Chan, send bool, want ...api.Wait) {
	t.Helper()
	if got := c.Waiting(send); !slices.Equal(got, want) {
		t.Fatalf("Waiting(%v): %v, not %v", send, got, want)
	}
}

// ready tells where not those can be done.
func ready(t *testing.T, l []choose.Case, want ...int) {
	t.Helper()
	if got := choose.Ready(l); !slices.Equal(got, want) {
		t.Fatalf("Ready: %v, not %v", got, want)
	}
}

// does tells where a Do is not answered so.
func does(t *testing.T, l []choose.Case, def bool, draw, task int, want choose.Result, wakes ...api.Wake) {
	t.Helper()
	r, w, e := choose.Do(l, def, draw, task)
	if r != want || !slices.Equal(w, wakes) || e != api.OK {
		t.Fatalf("Do(%v, %d, %d): %+v %v %d, not %+v %v", def, draw, task, r, w, e, want, wakes)
	}
}

// refused tells where a Do is not ErrArg, and nothing else.
func refused(t *testing.T, l []choose.Case, def bool, draw, task int) {
	t.Helper()
	r, w, e := choose.Do(l, def, draw, task)
	if r != (choose.Result{}) || len(w) > 0 || e != api.ErrArg {
		t.Fatalf("Do(%v, %d, %d) of %d cases: %+v %v %d", def, draw, task, len(l), r, w, e)
	}
}

// leaves tells where a task's going is not answered so.
func leaves(t *testing.T, l []choose.Case, task, want int) {
	t.Helper()
	if got := choose.Leave(l, task); got != want {
		t.Fatalf("Leave(%d): %d, not %d", task, got, want)
	}
}

// What a Do is answered with where a case is done: of a receive and of a send; where none is; where one can't be.
func took(index, v int) choose.Result {
	return choose.Result{Index: index, Value: v, OK: true}
}

func gave(index int) choose.Result {
	return choose.Result{Index: index, OK: true}
}

func ended(index int) choose.Result {
	return choose.Result{Index: index}
}

func bad(index int) choose.Result {
	return choose.Result{Index: index, Panic: true}
}

func byDefault() choose.Result {
	return choose.Result{Index: -1}
}

func parked() choose.Result {
	return choose.Result{Index: -1, Parked: true}
}

func wrong(index int) choose.Result {
	return choose.Result{Index: index, Kind: true}
}

// state is all that can be asked of a channel.
func state(c *chanq.Chan) string {
	return fmt.Sprint(c.Len(), c.Cap(), c.Closed(), c.Can(true), c.Can(false), c.Waiting(true), c.Waiting(false))
}

// rest is all that can be received of it, whoever waits; it is gone then.
func rest(c *chanq.Chan) string {
	s := ""
	for v, ok, _, wakes := c.Recv(); ok; v, ok, _, wakes = c.Recv() {
		s += fmt.Sprintf("%d %v ", v, wakes)
	}
	return s
}

// numbers are some at their edges.
func numbers() []int {
	return []int{
		math.MinInt, math.MinInt + 1, -api.MaxTime - 1, -api.MaxTime, -1<<32 - 1, -1 << 32, -1<<32 + 1, math.MinInt32,
		-65, -17, -16, -4, -3, -2, -1, 0, 1, 2, 3, 4, 15, 16, 17, 63, 64, 65, 1 << 16, math.MaxInt32, 1<<32 - 1, 1 << 32,
		1<<32 + 1, api.MaxTime, api.MaxTime + 1, math.MaxInt - 1, math.MaxInt,
	}
}

// modulo is n modulo count, from 0 on.
func modulo(n, count int) int {
	return (n%count + count) % count
}

// sort is a channel in some state, and what can be done with it.
type sort struct {
	what    string
	new     func() *chanq.Chan
	send    bool
	receive bool
	kind    bool // it takes no sends
}

// sorts are channels in all states that differ for a select.
func sorts(t *testing.T) []sort {
	t.Helper()
	half := func() *chanq.Chan {
		c := made(t, 2)
		c.Send(5)
		return c
	}
	return []sort{
		{"nil", func() *chanq.Chan { return nil }, false, false, false},
		{"of no making", func() *chanq.Chan { return &chanq.Chan{} }, false, false, false},
		{"without room", func() *chanq.Chan { return made(t, 0) }, false, false, false},
		{"without room, one receives", func() *chanq.Chan { return line(t, made(t, 0), false, one(9, 3, 0)) }, true, false, false},
		{"without room, one sends", func() *chanq.Chan { return line(t, made(t, 0), true, one(9, 3, 8)) }, false, true, false},
		{"without room, closed", func() *chanq.Chan { return shut(t, made(t, 0)) }, true, true, false},
		{"empty", func() *chanq.Chan { return made(t, 2) }, true, false, false},
		{"empty, one receives", func() *chanq.Chan { return line(t, made(t, 2), false, one(9, 3, 0)) }, true, false, false},
		{"half full", half, true, true, false},
		{"half full, closed", func() *chanq.Chan { return shut(t, half()) }, true, true, false},
		{"full", func() *chanq.Chan { return full(t, 2, 5) }, false, true, false},
		{"full, one sends", func() *chanq.Chan { return line(t, full(t, 2, 5), true, one(9, 3, 8)) }, false, true, false},
		{"greatest, full", func() *chanq.Chan { return full(t, 64, 5) }, false, true, false},
		{"a timer's", chanq.Timed, false, false, true},
		{"a timer's with a value", func() *chanq.Chan { return due(5) }, false, true, true},
		{"a timer's, one receives", func() *chanq.Chan { return line(t, chanq.Timed(), false, one(9, 3, 0)) }, false, false, true},
		{"a context's", chanq.Signal, false, false, true},
		{"a context's, one receives", func() *chanq.Chan { return line(t, chanq.Signal(), false, one(9, 3, 0)) }, false, false, true},
		{"a context's, closed", over, false, true, true},
	}
}

func TestP10_1ReadyOfEachSort(t *testing.T) {
	for _, s := range sorts(t) {
		for _, send := range []bool{false, true} {
			can := s.receive
			if send {
				can = s.send
			}
			c := s.new()
			was := state(c)
			l := []choose.Case{{Chan: c, Send: send, Value: 6}}
			for range 2 {
				if got := choose.Ready(l); len(got) > 0 != can || can && got[0] != 0 {
					t.Errorf("%s, send %v: %v", s.what, send, got)
				}
			}
			if now := state(c); now != was {
				t.Errorf("%s, send %v: asked, and now %s, not %s", s.what, send, now, was)
			}
			if now, want := rest(c), rest(s.new()); now != want {
				t.Errorf("%s, send %v: asked, and %s comes, not %s", s.what, send, now, want)
			}
		}
	}
}

func TestP10_1ReadyRises(t *testing.T) {
	ready(t, nil)
	ready(t, []choose.Case{})
	ready(t, []choose.Case{{}, {Send: true}})
	a, b, none := full(t, 1, 5), made(t, 1), (*chanq.Chan)(nil)
	ready(t, []choose.Case{in(b), in(a), out(a, 1), out(b, 1), in(none), in(over()), out(due(1), 1), out(none, 1), in(a)}, 1, 3, 5, 8)
	ready(t, []choose.Case{in(a), in(a), in(a)}, 0, 1, 2)
	// Each set of five places.
	for set := range 32 {
		var l []choose.Case
		var want []int
		for i := range 5 {
			if set>>i&1 == 1 {
				l = append(l, in(a))
				want = append(want, i)
			} else {
				l = append(l, out(a, 1))
			}
		}
		ready(t, l, want...)
	}
}

// No number of cases is too great to be asked, or left.
func TestP10_1ReadyOfMany(t *testing.T) {
	a, b := full(t, 1, 5), made(t, 1)
	for _, n := range []int{15, 16, 17, 300} {
		var l []choose.Case
		var want []int
		for i := range n {
			if i%3 == 1 {
				l = append(l, in(b))
				continue
			}
			l = append(l, in(a))
			want = append(want, i)
		}
		ready(t, l, want...)
	}
}

func TestP10_1TheExample(t *testing.T) {
	a, b := full(t, 1, 5), full(t, 1, 6)
	does(t, []choose.Case{in(a), in(b)}, false, 3, 0, took(1, 6))
	if a.Len() != 1 || b.Len() != 0 {
		t.Errorf("%d and %d values", a.Len(), b.Len())
	}
}

func TestP10_1TooManyCases(t *testing.T) {
	for _, def := range []bool{false, true} {
		for _, n := range []int{17, 18, 32, 300} {
			a := full(t, 1, 5)
			refused(t, slices.Repeat([]choose.Case{in(a)}, n), def, 0, 0)
			if got := rest(a); got != "5 [] " {
				t.Errorf("%d cases: %s comes", n, got)
			}
			b := made(t, 0)
			refused(t, slices.Repeat([]choose.Case{in(b)}, n), def, 0, 0)
			waiting(t, b, false)
			refused(t, make([]choose.Case, n), def, 0, 0)
			refused(t, slices.Repeat([]choose.Case{out(chanq.Signal(), 1)}, n), def, 0, 0)
			refused(t, make([]choose.Case, n), def, 0, -1)
		}
	}
	// So many may be.
	a, b := full(t, 64, 5), made(t, 0)
	for i := range 16 {
		does(t, slices.Repeat([]choose.Case{in(a)}, 16), false, i, 0, took(i, 5+i))
	}
	does(t, make([]choose.Case, 16), true, 0, 0, byDefault())
	does(t, slices.Repeat([]choose.Case{in(b)}, 16), false, 0, 0, parked())
	leaves(t, []choose.Case{in(b)}, 0, 16)
}

func TestP10_1TaskBelow0(t *testing.T) {
	for _, task := range numbers() {
		for _, def := range []bool{false, true} {
			a, b, timer := full(t, 1, 5), made(t, 0), chanq.Timed()
			if task < 0 {
				refused(t, []choose.Case{in(a)}, def, 0, task)
				refused(t, []choose.Case{in(b)}, def, 0, task)
				refused(t, []choose.Case{out(timer, 1)}, def, 0, task)
				refused(t, nil, def, 0, task)
				waiting(t, b, false)
				if a.Len() != 1 {
					t.Errorf("task %d: %d values", task, a.Len())
				}
				continue
			}
			does(t, []choose.Case{out(timer, 1)}, def, 0, task, wrong(0))
			does(t, []choose.Case{in(a)}, def, 0, task, took(0, 5))
			does(t, []choose.Case{in(a), out(b, 6)}, false, 0, task, parked())
			waiting(t, a, false, one(task, 0, 0))
			waiting(t, b, true, one(task, 1, 6))
		}
	}
}

func TestP10_1Kind(t *testing.T) {
	kinds := []func() *chanq.Chan{
		chanq.Timed, chanq.Signal, over, func() *chanq.Chan { return due(5) },
		func() *chanq.Chan { return line(t, chanq.Timed(), false, one(9, 3, 0)) },
		func() *chanq.Chan { return line(t, chanq.Signal(), false, one(9, 3, 0)) },
	}
	for i, kind := range kinds {
		for place := range 16 {
			for _, def := range []bool{false, true} {
				// Whether others could be done, ahead of it and behind it, or none.
				for _, other := range []*chanq.Chan{nil, made(t, 0), full(t, 1, 7), shut(t, made(t, 0))} {
					c := kind()
					was, wasOther := state(c), state(other)
					l := slices.Repeat([]choose.Case{in(other)}, 16)
					l[place] = out(c, 1)
					does(t, l, def, 0, 2, wrong(place))
					does(t, l, def, 3, 2, wrong(place))
					if now, nowOther := state(c), state(other); now != was || nowOther != wasOther {
						t.Fatalf("kind %d: %s and %s, not %s and %s", i, now, nowOther, was, wasOther)
					}
					// The first one, of several.
					for behind := place + 1; behind < 16; behind++ {
						l[behind] = out(kinds[(i+behind)%len(kinds)](), 1)
						does(t, l, def, place, 2, wrong(place))
					}
				}
			}
		}
	}
}

// Just a send is Kind: there one receives as elsewhere; and a nil one takes a send as little as a full one.
func TestP10_1NoKind(t *testing.T) {
	timer, context, plain := chanq.Timed(), chanq.Signal(), full(t, 1, 5)
	l := []choose.Case{in(timer), in(context), out(nil, 1), out(plain, 2), out(&chanq.Chan{}, 3)}
	does(t, l, true, 0, 2, byDefault())
	does(t, l, false, 0, 2, parked())
	waiting(t, timer, false, one(2, 0, 0))
	waiting(t, context, false, one(2, 1, 0))
	waiting(t, plain, true, one(2, 3, 2))
	leaves(t, l, 2, 4)
	timer.Put(8)
	does(t, l, false, 0, 2, took(0, 8))
	context.End()
	does(t, l, false, 0, 2, ended(1))
}

// Each draw has the one of those that can be done, at its place among them, and nothing else is done.
func TestP10_1Draw(t *testing.T) {
	for _, draw := range numbers() {
		for n := 1; n <= 16; n++ {
			for skip := range 3 {
				var l []choose.Case
				var places []int
				for len(places) < n && len(l) < 16 {
					if len(l)%3 < skip {
						l = append(l, in(made(t, 0)))
						continue
					}
					places = append(places, len(l))
					l = append(l, in(full(t, 1, 100+len(l))))
				}
				at := places[modulo(draw, len(places))]
				ready(t, l, places...)
				does(t, l, draw%2 == 0, draw, 2, took(at, 100+at))
				for i, c := range l {
					want := 1
					if i == at || !slices.Contains(places, i) {
						want = 0
					}
					if c.Chan.Len() != want {
						t.Fatalf("draw %d of %d: %d values at %d", draw, len(places), c.Chan.Len(), i)
					}
					waiting(t, c.Chan, false)
				}
			}
		}
	}
}

func TestP10_1Receives(t *testing.T) {
	for _, v := range numbers() {
		does(t, []choose.Case{in(nil), in(full(t, 1, v))}, false, 0, 2, took(1, v))
		does(t, []choose.Case{in(nil), in(due(v))}, false, 0, 2, took(1, v))
		a := line(t, made(t, 0), true, one(v, v, v), one(8, 0, 4))
		does(t, []choose.Case{in(a)}, false, 0, 2, took(0, v), sent(v, v))
		waiting(t, a, true, one(8, 0, 4))
		b := line(t, full(t, 1, v), true, one(8, 4, 6))
		does(t, []choose.Case{in(b)}, true, 0, 2, took(0, v), sent(8, 4))
		does(t, []choose.Case{in(b)}, true, 0, 2, took(0, 6))
		does(t, []choose.Case{in(b)}, true, 0, 2, byDefault())
	}
}

func TestP10_1ReceivesOfAClosedOne(t *testing.T) {
	for _, def := range []bool{false, true} {
		c := shut(t, full(t, 2, 5))
		for _, want := range []choose.Result{took(1, 5), took(1, 6), ended(1), ended(1)} {
			does(t, []choose.Case{in(nil), in(c)}, def, 0, 2, want)
		}
		does(t, []choose.Case{in(nil), in(nil), in(over())}, def, 7, 2, ended(2))
	}
}

func TestP10_1Sends(t *testing.T) {
	for _, v := range numbers() {
		a := made(t, 2)
		does(t, []choose.Case{out(nil, 4), out(a, v)}, false, 0, 2, gave(1))
		does(t, []choose.Case{out(nil, 4), out(a, 3)}, true, 0, 2, gave(1))
		does(t, []choose.Case{out(nil, 4), out(a, 3)}, true, 0, 2, byDefault())
		if got, want := rest(a), fmt.Sprintf("%d [] 3 [] ", v); got != want {
			t.Errorf("%s comes, not %s", got, want)
		}
		for _, size := range []int{0, 1} {
			b := line(t, made(t, size), false, one(v, v, 0), one(8, 4, 0))
			does(t, []choose.Case{out(b, v)}, false, 0, 2, gave(0), got(v, v, v))
			waiting(t, b, false, one(8, 4, 0))
			does(t, []choose.Case{out(b, 0)}, true, 0, 2, gave(0), got(8, 4, 0))
			if b.Len() != 0 {
				t.Errorf("%d values", b.Len())
			}
		}
	}
}

func TestP10_1SendsOnAClosedOne(t *testing.T) {
	for _, def := range []bool{false, true} {
		for size := range 3 {
			for n := range size + 1 {
				c := made(t, size)
				for i := range n {
					c.Send(5 + i)
				}
				shut(t, c)
				was := state(c)
				for range 2 {
					does(t, []choose.Case{out(nil, 4), out(c, 9)}, def, 0, 2, bad(1))
				}
				if now := state(c); now != was {
					t.Errorf("%s, not %s", now, was)
				}
			}
		}
	}
}

// One that panics, or tells that it is closed, is drawn as any other is.
func TestP10_1AllThatCanBeDoneAreDrawn(t *testing.T) {
	for draw, want := range []choose.Result{bad(0), gave(2), ended(3), took(5, 7), took(6, 8)} {
		a := line(t, made(t, 0), false, one(9, 3, 0))
		b := line(t, made(t, 0), true, one(8, 4, 7))
		l := []choose.Case{out(shut(t, made(t, 1)), 1), in(made(t, 1)), out(a, 6), in(over()), in(nil), in(b), in(due(8))}
		var wakes []api.Wake
		switch want.Index {
		case 2:
			wakes = []api.Wake{got(9, 3, 6)}
		case 5:
			wakes = []api.Wake{sent(8, 4)}
		}
		does(t, l, true, draw, 2, want, wakes...)
	}
}

func TestP10_1Default(t *testing.T) {
	for _, draw := range numbers() {
		does(t, nil, true, draw, 2, byDefault())
		does(t, []choose.Case{}, true, draw, 2, byDefault())
		does(t, []choose.Case{in(nil), out(nil, 1)}, true, draw, 2, byDefault())
		a, b, timer, context := made(t, 0), full(t, 2, 5), chanq.Timed(), chanq.Signal()
		l := []choose.Case{in(a), out(a, 1), out(b, 2), in(timer), in(context)}
		does(t, l, true, draw, 2, byDefault())
		for _, c := range []*chanq.Chan{a, b, timer, context} {
			waiting(t, c, true)
			waiting(t, c, false)
		}
		leaves(t, l, 2, 0)
	}
}

func TestP10_1ADefaultIsBehindAll(t *testing.T) {
	for _, s := range sorts(t) {
		if s.receive {
			if r, _, _ := choose.Do([]choose.Case{in(s.new())}, true, 0, 2); r.Index != 0 {
				t.Errorf("%s: %+v", s.what, r)
			}
		}
		if s.send {
			if r, _, _ := choose.Do([]choose.Case{out(s.new(), 1)}, true, 0, 2); r.Index != 0 {
				t.Errorf("%s: %+v", s.what, r)
			}
		}
	}
}

func TestP10_1Parks(t *testing.T) {
	a, b, timer, context := made(t, 0), full(t, 2, 5), chanq.Timed(), chanq.Signal()
	line(t, a, false, one(9, 3, 0))
	line(t, b, true, one(9, 4, 1), one(8, 0, 0))
	line(t, timer, false, one(8, 1, 0))
	l := []choose.Case{in(timer), in(nil), out(b, 12), in(a), in(context), out(nil, 1), out(b, -7), in(timer)}
	does(t, l, false, 5, 2, parked())
	waiting(t, a, false, one(9, 3, 0), one(2, 3, 0))
	waiting(t, a, true)
	waiting(t, b, true, one(9, 4, 1), one(8, 0, 0), one(2, 2, 12), one(2, 6, -7))
	waiting(t, b, false)
	waiting(t, timer, false, one(8, 1, 0), one(2, 0, 0), one(2, 7, 0))
	waiting(t, context, false, one(2, 4, 0))
	// Once more, of another task: behind all.
	does(t, l[2:4], false, 0, 0, parked())
	waiting(t, a, false, one(9, 3, 0), one(2, 3, 0), one(0, 1, 0))
	waiting(t, b, true, one(9, 4, 1), one(8, 0, 0), one(2, 2, 12), one(2, 6, -7), one(0, 0, 12))
}

func TestP10_1ParksNowhere(t *testing.T) {
	for _, draw := range numbers() {
		does(t, nil, false, draw, 2, parked())
		does(t, []choose.Case{}, false, draw, 2, parked())
		l := []choose.Case{in(nil), out(nil, 1), {}}
		does(t, l, false, draw, 2, parked())
		leaves(t, l, 2, 0)
	}
}

// A task can't hand over to itself: it waits on both sides.
func TestP10_1ParksOnBothSides(t *testing.T) {
	for _, sendsFirst := range []bool{false, true} {
		a := made(t, 0)
		l := []choose.Case{{Chan: a, Send: sendsFirst, Value: 5}, {Chan: a, Send: !sendsFirst, Value: 5}, in(a), out(a, 6)}
		does(t, l, false, 0, 2, parked())
		sends, receives := 1, 0
		if sendsFirst {
			sends, receives = 0, 1
		}
		waiting(t, a, true, one(2, sends, 5), one(2, 3, 6))
		waiting(t, a, false, one(2, receives, 0), one(2, 2, 0))
		// Whoever comes meets it, on either side.
		does(t, []choose.Case{in(a)}, false, 0, 3, took(0, 5), sent(2, sends))
		does(t, []choose.Case{out(a, 8)}, false, 0, 3, gave(0), got(2, receives, 8))
		leaves(t, l, 2, 2)
	}
}

// Who waits at a channel meets whoever comes, its own task too, as Can has it.
func TestP10_1WaitsOfItsOwnTask(t *testing.T) {
	a := line(t, made(t, 0), false, one(2, 5, 0))
	ready(t, []choose.Case{in(a), out(a, 7)}, 1)
	does(t, []choose.Case{in(a), out(a, 7)}, false, 0, 2, gave(1), got(2, 5, 7))
}

func TestP10_1AllNumbersAreSent(t *testing.T) {
	for _, v := range numbers() {
		a := made(t, 0)
		does(t, []choose.Case{out(a, v)}, false, v, 2, parked())
		waiting(t, a, true, one(2, 0, v))
		does(t, []choose.Case{in(a)}, false, v, 3, took(0, v), sent(2, 0))
	}
}

func TestP10_2Leave(t *testing.T) {
	a, b, timer, context := made(t, 0), full(t, 2, 5), chanq.Timed(), chanq.Signal()
	l := []choose.Case{in(timer), in(nil), out(b, 12), in(a), in(context), out(nil, 1), out(b, -7), in(timer), out(a, 3)}
	line(t, a, false, one(9, 3, 0), one(2, 9, 0), one(9, 4, 0))
	line(t, b, true, one(9, 4, 1), one(2, 9, 0), one(8, 0, 0), one(2, 9, 0))
	line(t, timer, false, one(2, 1, 0), one(9, 2, 0))
	line(t, context, false, one(9, 2, 0), one(2, 1, 0))
	leaves(t, l, 7, 0)
	leaves(t, l, 2, 5)
	waiting(t, a, false, one(9, 3, 0), one(9, 4, 0))
	waiting(t, b, true, one(9, 4, 1), one(8, 0, 0))
	waiting(t, timer, false, one(9, 2, 0))
	waiting(t, context, false, one(9, 2, 0))
	leaves(t, l, 2, 0)
	leaves(t, l, 8, 1)
	leaves(t, l, 9, 5)
	leaves(t, l, 9, 0)
	for _, c := range []*chanq.Chan{a, b, timer, context} {
		waiting(t, c, true)
		waiting(t, c, false)
	}
	if got := rest(b); got != "5 [] 6 [] " {
		t.Errorf("%s comes", got)
	}
}

func TestP10_2LeavesJustWhereItIsAsked(t *testing.T) {
	a, b := made(t, 0), made(t, 0)
	does(t, []choose.Case{in(a), out(b, 3), in(b)}, false, 0, 2, parked())
	leaves(t, nil, 2, 0)
	leaves(t, []choose.Case{}, 2, 0)
	leaves(t, []choose.Case{in(nil), {}}, 2, 0)
	// On both sides, whichever side the case is of.
	leaves(t, []choose.Case{out(b, 9)}, 2, 2)
	waiting(t, b, true)
	waiting(t, b, false)
	waiting(t, a, false, one(2, 0, 0))
	leaves(t, []choose.Case{out(a, 9), in(a), in(a)}, 2, 1)
	waiting(t, a, false)
}

func TestP10_2LeaveOfAnyTaskAndOfMany(t *testing.T) {
	for _, task := range numbers() {
		for _, n := range []int{1, 16, 17, 300} {
			var l []choose.Case
			for i := range n {
				c := made(t, 0)
				line(t, c, i%2 == 0, one(5, 0, 0), one(task, i, 4), one(5, 1, 0), one(task, 0, 0))
				l = append(l, choose.Case{Chan: c, Send: i%3 == 0})
			}
			want := 2 * n
			if task == 5 {
				want = 4 * n
			}
			leaves(t, l, task, want)
			leaves(t, l, task, 0)
			leaves(t, l, 5, 4*n-want)
		}
	}
}

func TestP10_2LeavesWhatIsClosed(t *testing.T) {
	a, b := made(t, 0), chanq.Signal()
	l := []choose.Case{in(a), in(b)}
	does(t, l, false, 0, 2, parked())
	b.End()
	leaves(t, l, 2, 1)
	does(t, l, false, 0, 2, ended(1))
	shut(t, a)
	leaves(t, l, 2, 0)
}

// side is one of two sets of channels that the same was done to.
type side struct {
	chans []*chanq.Chan
}

// newSide is channels of each kind, and none.
func newSide(t *testing.T) side {
	t.Helper()
	return side{[]*chanq.Chan{nil, made(t, 0), made(t, 0), made(t, 1), made(t, 2), chanq.Timed(), chanq.Signal()}}
}

// pick is a case by its numbers: the place of its channel, whether it sends, what.
type pick struct {
	at    int
	send  bool
	value int
}

// cases are those picks of this side's channels.
func (s side) cases(l []pick) []choose.Case {
	var cases []choose.Case
	for _, p := range l {
		cases = append(cases, choose.Case{Chan: s.chans[p.at], Send: p.send, Value: p.value})
	}
	return cases
}

// told is all that a Do is answered with.
type told struct {
	r     choose.Result
	wakes []api.Wake
	e     api.Errno
}

// chosen is what the chapter's words make of a Do, by the channels' own calls, which are those of the other side.
func (s side) chosen(l []pick, def bool, draw, task int) told {
	if len(l) > 16 || task < 0 {
		return told{e: api.ErrArg}
	}
	var can []int
	for i, p := range l {
		if p.send && p.at >= 5 {
			return told{r: wrong(i)}
		}
		if s.chans[p.at].Can(p.send) {
			can = append(can, i)
		}
	}
	if len(can) == 0 {
		if def {
			return told{r: byDefault()}
		}
		for i, p := range l {
			v := 0
			if p.send {
				v = p.value
			}
			if c := s.chans[p.at]; c != nil {
				c.Wait(one(task, i, v), p.send)
			}
		}
		return told{r: parked()}
	}
	place := can[modulo(draw, len(can))]
	c := s.chans[l[place].at]
	if !l[place].send {
		v, ok, _, wakes := c.Recv()
		return told{r: choose.Result{Index: place, Value: v, OK: ok}, wakes: wakes}
	}
	if c.Closed() {
		return told{r: bad(place)}
	}
	_, wakes, _ := c.Send(l[place].value)
	return told{r: gave(place), wakes: wakes}
}

// all is what can be asked of all channels of this side.
func (s side) all() string {
	text := ""
	for i, c := range s.chans {
		text += fmt.Sprint(i, ": ", state(c), "\n")
	}
	return text
}

// anyPicks are some by chance; few of them send on what takes no sends.
func anyPicks(r *rand.Rand) []pick {
	var l []pick
	for range r.Intn(6) {
		p := pick{r.Intn(7), r.Intn(2) == 0, r.Intn(1000)}
		if p.at >= 5 && r.Intn(20) > 0 {
			p.send = false
		}
		l = append(l, p)
	}
	return l
}

// anythingElse is done by chance to both sides: a value of the timer's, the end of what is there, a task that leaves.
func anythingElse(r *rand.Rand, a, b side) {
	n, v, task := r.Intn(60), r.Intn(1000), r.Intn(5)
	for _, s := range []side{a, b} {
		switch {
		case n < 8:
			s.chans[5].Put(v)
		case n < 12:
			s.chans[5].Drop()
		case n < 20:
			for _, c := range s.chans {
				c.Remove(task)
			}
		case n == 20:
			s.chans[6].End()
		case n == 21:
			s.chans[1+v%4].Close()
		}
	}
}

func TestP10_3WalksByChance(t *testing.T) {
	r := rand.New(rand.NewSource(10))
	for range 600 {
		a, b := newSide(t), newSide(t)
		for range 80 {
			l, def, draw, task := anyPicks(r), r.Intn(3) == 0, r.Intn(41)-20, r.Intn(6)-r.Intn(20)/19
			before := a.all()
			result, wakes, e := choose.Do(a.cases(l), def, draw, task)
			want := b.chosen(l, def, draw, task)
			if result != want.r || !slices.Equal(wakes, want.wakes) || e != want.e {
				t.Fatalf("Do(%v, %v, %d, %d): %+v %v %d, not %+v; of\n%s", l, def, draw, task, result, wakes, e, want, before)
			}
			anythingElse(r, a, b)
			if a.all() != b.all() {
				t.Fatalf("Do(%v, %v, %d, %d) of\n%sthen\n%snot\n%s", l, def, draw, task, before, a.all(), b.all())
			}
		}
		for i := range a.chans {
			if x, y := rest(a.chans[i]), rest(b.chans[i]); x != y {
				t.Fatalf("channel %d: %s, not %s", i, x, y)
			}
		}
	}
}

// Of two cases of each sort, just one is done, or none.
func TestP10_3OneCaseOrNone(t *testing.T) {
	for _, x := range sorts(t) {
		for _, y := range sorts(t) {
			for ways := range 16 {
				sendX, sendY, def, draw := ways&1 > 0, ways&2 > 0, ways&4 > 0, ways>>3
				a, b := x.new(), y.new()
				l := []choose.Case{{Chan: a, Send: sendX, Value: 20}, {Chan: b, Send: sendY, Value: 30}}
				r, _, e := choose.Do(l, def, draw, 2)
				what := fmt.Sprintf("%s (%v), %s (%v), %v, %d: %+v", x.what, sendX, y.what, sendY, def, draw, r)
				if e != api.OK {
					t.Fatalf("%s: %d", what, e)
				}
				canX, canY := sendX && x.send || !sendX && x.receive, sendY && y.send || !sendY && y.receive
				var want int
				switch {
				case sendX && x.kind:
				case sendY && y.kind:
					want = 1
				case canX && canY:
					want = draw
				case canY:
					want = 1
				case !canX:
					want = -1
				}
				if r.Index != want {
					t.Fatalf("%s: not %d", what, want)
				}
				changed := []bool{state(a) != state(x.new()), state(b) != state(y.new())}
				if r.Kind && (changed[0] || changed[1]) || r.Index == 0 && changed[1] || r.Index == 1 && changed[0] {
					t.Fatalf("%s: what is not done has changed: %v", what, changed)
				}
				if r.Index == -1 && r.Parked == def {
					t.Fatalf("%s: parked or not", what)
				}
				wait := 0
				if r.Parked {
					wait = len(slices.DeleteFunc(l, func(c choose.Case) bool { return c.Chan == nil }))
				}
				leaves(t, []choose.Case{in(a), in(b)}, 2, wait)
			}
		}
	}
}

// What is handed in stays as it is, its spare room too.
func TestP10_3WhatIsHandedInIsNotChanged(t *testing.T) {
	none := made(t, 0)
	for _, first := range []choose.Case{in(none), out(none, 4), in(full(t, 1, 5)), in(over()), out(chanq.Timed(), 4), in(nil)} {
		for _, def := range []bool{false, true} {
			room := make([]choose.Case, 6)
			for i := range room {
				room[i] = choose.Case{Chan: made(t, 0), Send: i%2 == 0, Value: 60 + i}
			}
			room[0], room[2] = first, in(nil)
			was := slices.Clone(room)
			l := room[:3]
			choose.Ready(l)
			choose.Do(l, def, 1, 2)
			choose.Leave(l, 2)
			if !slices.Equal(room, was) {
				t.Fatalf("%v, not %v", room, was)
			}
			for _, c := range room[3:] {
				waiting(t, c.Chan, true)
				waiting(t, c.Chan, false)
			}
		}
	}
}

func TestP10_3WhatIsHandedInIsNotKept(t *testing.T) {
	a, b := made(t, 0), made(t, 0)
	l := []choose.Case{out(a, 5), in(b)}
	does(t, l, false, 0, 2, parked())
	l[0], l[1] = in(b), out(a, 9)
	waiting(t, a, true, one(2, 0, 5))
	waiting(t, b, false, one(2, 1, 0))
	ready(t, []choose.Case{in(a), out(b, 1)}, 0, 1)
	does(t, []choose.Case{in(a)}, false, 0, 3, took(0, 5), sent(2, 0))
}

func TestP10_3WhatIsAnsweredIsNewMemory(t *testing.T) {
	a := line(t, full(t, 3, 5), true, one(8, 0, 1), one(8, 1, 2), one(8, 2, 3))
	l := []choose.Case{in(a), in(nil), in(a), in(a)}
	first := choose.Ready(l)
	second := choose.Ready(l)
	first = first[:cap(first)]
	for i := range first {
		first[i] = -9
	}
	if want := []int{0, 2, 3}; !slices.Equal(second, want) {
		t.Errorf("an answer is in another one: %v", second)
	}
	ready(t, l, 0, 2, 3)
	_, x, _ := choose.Do(l, false, 0, 2)
	_, y, _ := choose.Do(l, false, 0, 2)
	x[0] = got(-9, -9, -9)
	if want := []api.Wake{sent(8, 1)}; !slices.Equal(y, want) {
		t.Errorf("%v, not %v", y, want)
	}
	does(t, l, false, 0, 2, took(0, 7), sent(8, 2))
	does(t, l, false, 0, 2, took(0, 1))
}

// town is tasks that do one select after another: who is woken leaves all that it waited at.
type town struct {
	chans    []*chanq.Chan
	at       map[int][]choose.Case // what a task that waits does
	sent     map[*chanq.Chan][]int
	received map[*chanq.Chan][]int
}

// did writes down what a case of a task came to.
func (w *town) did(c choose.Case, v int) {
	if c.Send {
		w.sent[c.Chan] = append(w.sent[c.Chan], c.Value)
	} else {
		w.received[c.Chan] = append(w.received[c.Chan], v)
	}
}

// step has a task do a select of those cases, and has all go on that it wakes.
func (w *town) step(t *testing.T, task int, l []choose.Case, draw int) {
	t.Helper()
	r, wakes, e := choose.Do(l, false, draw, task)
	switch {
	case e != api.OK || r.Kind || r.Panic:
		t.Fatalf("task %d: %+v %d", task, r, e)
	case r.Parked:
		w.at[task] = l
	default:
		w.did(l[r.Index], r.Value)
	}
	for _, wake := range wakes {
		cases, is := w.at[wake.Task]
		if !is {
			t.Fatalf("task %d is woken, and does not wait", wake.Task)
		}
		delete(w.at, wake.Task)
		w.did(cases[wake.Case], wake.Value)
		// All its waits but that one are there yet.
		leaves(t, cases, wake.Task, len(cases)-1)
	}
}

func TestP10_3WhoIsWokenWaitsNowhereElse(t *testing.T) {
	r := rand.New(rand.NewSource(100))
	for range 60 {
		w := town{at: map[int][]choose.Case{}, sent: map[*chanq.Chan][]int{}, received: map[*chanq.Chan][]int{}}
		for _, size := range []int{0, 0, 1, 2} {
			w.chans = append(w.chans, made(t, size))
		}
		for v := range 400 {
			task := r.Intn(8)
			if _, is := w.at[task]; is {
				continue
			}
			var l []choose.Case
			for range 1 + r.Intn(5) {
				l = append(l, choose.Case{Chan: w.chans[r.Intn(4)], Send: r.Intn(2) == 0, Value: 10*v + len(l)})
			}
			w.step(t, task, l, r.Intn(100))
			waits := 0
			for _, c := range w.chans {
				s, g := w.sent[c], w.received[c]
				if len(s)-len(g) != c.Len() || c.Len() > c.Cap() || !slices.Equal(g, s[:len(g)]) {
					t.Fatalf("sent %v, received %v, %d are there", s, g, c.Len())
				}
				waits += len(c.Waiting(true)) + len(c.Waiting(false))
			}
			for _, cases := range w.at {
				waits -= len(cases)
			}
			if waits != 0 {
				t.Fatalf("%d waits too many", waits)
			}
		}
	}
}
