package timer_test

import (
	"fmt"
	"math"
	"math/big"
	"math/rand"
	"slices"
	"testing"

	"tarpaulin/api"
	"tarpaulin/chanq"
	"tarpaulin/timer"
)

const top = api.MaxTime

// edges are the numbers at which a time, or a duration, begins or ends to be one.
func edges() []int {
	return []int{
		math.MinInt, math.MinInt + 1, -top - 1, -top, math.MinInt32, -2, -1, 0, 1, 2, 7,
		math.MaxInt32, top / 2, top/2 + 1, top - 7, top - 2, top - 1, top, top + 1, math.MaxInt - 1, math.MaxInt,
	}
}

// sum is a time and a duration by as many digits as it needs: the duration from 0 to MaxTime, and so the sum.
func sum(now, d int) int {
	most := big.NewInt(top)
	s := new(big.Int).Add(big.NewInt(int64(now)), big.NewInt(int64(clamp(d))))
	if s.Cmp(most) > 0 {
		s = most
	}
	return int(s.Int64())
}

// clamp is a number from 0 to MaxTime.
func clamp(n int) int {
	if n < 0 {
		return 0
	}
	if n > top {
		return top
	}
	return n
}

// beyond tells whether a now may not be.
func beyond(now int) bool { return now < 0 || now > top }

// one is one that was made.
type one struct {
	kind, data, gen   int
	armed             bool
	when, period, seq int
	c                 *chanq.Chan
	values            []int
	waits             []api.Wait
	least             int // what is received is not before it
}

// plain is a set and beside it the same in a plain list.
type plain struct {
	s   *timer.Set
	all []one
	seq int
}

// none is a new set.
func none(t *testing.T) *plain {
	t.Helper()
	s := timer.New()
	if s == nil {
		t.Fatal("New: none")
	}
	return &plain{s: s}
}

// limited is how many are not a Lapse.
func (p *plain) limited() int {
	n := 0
	for _, o := range p.all {
		if o.kind != timer.Lapse {
			n++
		}
	}
	return n
}

// arm arms one in the plain list.
func (p *plain) arm(id, when, period int) {
	p.seq++
	o := &p.all[id]
	o.gen++
	o.armed, o.when, o.period, o.seq, o.least = true, when, period, p.seq, when
}

// refusal is what a making is refused with, a Lapse's with now 0.
func (p *plain) refusal(kind, now, d, data int) api.Errno {
	switch {
	case beyond(now), kind == timer.Ticker && d < 1, data < 0:
		return api.ErrArg
	case p.s == nil, kind != timer.Lapse && p.limited() >= 64:
		return api.ErrFull
	}
	return api.OK
}

// makes makes one of a kind, in both: a Lapse due at d.
func (p *plain) makes(t *testing.T, kind, now, d, data int) api.Errno {
	t.Helper()
	var id int
	var c *chanq.Chan
	var e api.Errno
	switch kind {
	case timer.Timer:
		id, c, e = p.s.Timer(now, d)
		data = 0
	case timer.Ticker:
		id, c, e = p.s.Ticker(now, d)
		data = 0
	case timer.Func:
		id, e = p.s.Func(now, d, data)
	default:
		id, e = p.s.Lapse(d, data)
		now = 0
	}
	want := p.refusal(kind, now, d, data)
	number := 0
	if want == api.OK {
		number = len(p.all)
		p.all = append(p.all, one{kind: kind, data: data, c: c})
		period := 0
		if kind == timer.Ticker {
			period = clamp(d)
		}
		p.arm(number, sum(now, d), period)
	}
	hasChan := want == api.OK && (kind == timer.Timer || kind == timer.Ticker)
	if id != number || e != want || (c != nil) != hasChan {
		t.Fatalf("kind %d at %d with %d, data %d, behind %d: %d %v %d, not %d %d", kind, now, d, data, len(p.all), id, c, e, number, want)
	}
	return e
}

// has tells whether a number was given.
func (p *plain) has(id int) bool { return id >= 0 && id < len(p.all) }

// quiet is what Stop and Reset tell, and do, in the plain list.
func (p *plain) quiet(id int) bool {
	o := &p.all[id]
	was := o.armed || len(o.values) > 0
	o.armed, o.values = false, nil
	return was
}

// stop stops one, in both.
func (p *plain) stop(t *testing.T, id int) {
	t.Helper()
	want, refused := false, api.ErrNone
	if p.has(id) {
		want, refused = p.quiet(id), api.OK
	}
	if got, e := p.s.Stop(id); got != want || e != refused {
		t.Fatalf("Stop(%d): %v %d, not %v %d", id, got, e, want, refused)
	}
}

// reset arms one anew, in both.
func (p *plain) reset(t *testing.T, id, now, d int) {
	t.Helper()
	want, refused := false, api.OK
	switch {
	case !p.has(id):
		refused = api.ErrNone
	case beyond(now), p.all[id].kind == timer.Ticker && d < 1:
		refused = api.ErrArg
	case p.all[id].kind == timer.Lapse:
		refused = api.ErrKind
	default:
		want = p.quiet(id)
		period := 0
		if p.all[id].kind == timer.Ticker {
			period = clamp(d)
		}
		p.arm(id, sum(now, d), period)
	}
	if got, e := p.s.Reset(id, now, d); got != want || e != refused {
		t.Fatalf("Reset(%d, %d, %d): %v %d, not %v %d", id, now, d, got, e, want, refused)
	}
}

// first is the number of who is ahead of all in the plain list, or -1.
func (p *plain) first() int {
	first := -1
	for id, o := range p.all {
		if !o.armed {
			continue
		}
		if first < 0 || o.when < p.all[first].when || o.when == p.all[first].when && o.seq < p.all[first].seq {
			first = id
		}
	}
	return first
}

// again arms one that fired at now for its next time in the plain list, if it has one.
func (p *plain) again(id, now int) {
	o := &p.all[id]
	o.armed = false
	if o.period == 0 {
		return
	}
	w, r, n := big.NewInt(int64(o.when)), big.NewInt(int64(o.period)), big.NewInt(int64(now))
	times := new(big.Int).Sub(n, w)
	times.Div(times, r).Add(times, big.NewInt(1))
	next := times.Mul(times, r).Add(times, w)
	if most := big.NewInt(top); next.Cmp(most) > 0 {
		next = most
	}
	if next.Cmp(n) > 0 {
		p.seq++
		o.armed, o.when, o.seq = true, int(next.Int64()), p.seq
	}
}

// put puts a now on the channel of one in the plain list, if it has one.
func (p *plain) put(id, now int) (wakes []api.Wake, kept bool) {
	o := &p.all[id]
	switch {
	case o.c == nil:
		return nil, false
	case len(o.waits) > 0:
		w := o.waits[0]
		o.waits = o.waits[1:]
		return []api.Wake{{Task: w.Task, Case: w.Case, Value: now, OK: true}}, true
	case len(o.values) > 0:
		return nil, false
	}
	o.values = []int{now}
	return nil, true
}

// same tells whether two that fired are alike.
func same(a, b timer.Fired) bool {
	return a.ID == b.ID && a.Kind == b.Kind && a.When == b.When && a.At == b.At && a.Data == b.Data &&
		slices.Equal(a.Wakes, b.Wakes) && a.Kept == b.Kept
}

// fire fires one, of both; whether there was one.
func (p *plain) fire(t *testing.T, now int) bool {
	t.Helper()
	var want timer.Fired
	id := p.first()
	is := id >= 0 && p.all[id].when <= now
	if is {
		o := p.all[id]
		want = timer.Fired{ID: id, Kind: o.kind, When: o.when, At: now, Data: o.data}
		want.Wakes, want.Kept = p.put(id, now)
		p.again(id, now)
	}
	if f, ok := p.s.Fire(now); !same(f, want) || ok != is {
		t.Fatalf("Fire(%d): %v %v, not %v %v; of %v", now, f, ok, want, is, p.all)
	}
	return is
}

// runs fires all that are due at a now, and then tells what is left.
func (p *plain) runs(t *testing.T, what string, now int) {
	t.Helper()
	for p.fire(t, now) {
		p.holds(t, what)
	}
	p.holds(t, what)
}

// recv receives of one's channel, in both.
func (p *plain) recv(t *testing.T, id int) {
	t.Helper()
	o := &p.all[id]
	want, is := 0, len(o.values) > 0
	if is {
		want = o.values[0]
		o.values = nil
	}
	v, ok, done, wakes := p.s.Chan(id).Recv()
	if v != want || ok != is || done != is || len(wakes) > 0 {
		t.Fatalf("received of %d: %d %v %v %v, not %d %v", id, v, ok, done, wakes, want, is)
	}
	if is && v < o.least {
		t.Fatalf("received of %d: %d, but it was armed for %d", id, v, o.least)
	}
}

// waits has a task wait for one's channel, in both.
func (p *plain) waits(t *testing.T, id, task int) {
	t.Helper()
	o := &p.all[id]
	w, want := api.Wait{Task: task, Case: task % 3}, api.OK
	switch {
	case o.c == nil:
		want = api.ErrNil
	case len(o.values) > 0:
		want = api.ErrArg
	default:
		o.waits = append(slices.Clip(o.waits), w)
	}
	if e := p.s.Chan(id).Wait(w, false); e != want {
		t.Fatalf("%v waits for %d: %d, not %d", w, id, e, want)
	}
}

// holds tells where a set is not what the plain list is.
func (p *plain) holds(t *testing.T, what string) {
	t.Helper()
	if got := p.s.Len(); got != len(p.all) {
		t.Fatalf("%s: Len %d, not %d", what, got, len(p.all))
	}
	want, is := 0, false
	if first := p.first(); first >= 0 {
		want, is = p.all[first].when, true
	}
	if when, ok := p.s.Next(); when != want || ok != is {
		t.Fatalf("%s: Next %d %v, not %d %v", what, when, ok, want, is)
	}
	for id, o := range p.all {
		c, kind, gen := p.s.Chan(id), p.s.Kind(id), p.s.Gen(id)
		if c != o.c || kind != o.kind || gen != o.gen {
			t.Fatalf("%s: %d: %p %d %d, not %p %d %d", what, id, c, kind, gen, o.c, o.kind, o.gen)
		}
		if c.Can(false) != (len(o.values) > 0) || !slices.Equal(c.Waiting(false), o.waits) {
			t.Fatalf("%s: %d: a value %v, and waits %v, not %v", what, id, c.Can(false), c.Waiting(false), o)
		}
	}
	p.not(t, what, -1, len(p.all), len(p.all)+1)
}

// not tells where one is there that should not be.
func (p *plain) not(t *testing.T, what string, ids ...int) {
	t.Helper()
	for _, id := range ids {
		if c, kind, gen := p.s.Chan(id), p.s.Kind(id), p.s.Gen(id); !p.has(id) && (c != nil || kind != 0 || gen != 0) {
			t.Fatalf("%s: %d: %p %d %d, not none", what, id, c, kind, gen)
		}
	}
}

// kinds is all of them, and four is a set of one of each, 0 to 3, made at 5: a Timer of 3, a Ticker of 4, a Func of 5 with
// program 6, a Lapse at 11 of context 7.
func kinds() []int { return []int{timer.Timer, timer.Ticker, timer.Func, timer.Lapse} }

func four(t *testing.T) *plain {
	t.Helper()
	p := none(t)
	p.makes(t, timer.Timer, 5, 3, 0)
	p.makes(t, timer.Ticker, 5, 4, 0)
	p.makes(t, timer.Func, 5, 5, 6)
	p.makes(t, timer.Lapse, 0, 11, 7)
	p.holds(t, "four")
	return p
}

func TestKinds(t *testing.T) {
	if got := kinds(); !slices.Equal(got, []int{1, 2, 3, 4}) {
		t.Errorf("kinds: %v", got)
	}
}

func TestP13_1TheExample(t *testing.T) {
	s := timer.New()
	id, c, e := s.Timer(5, 3)
	if id != 0 || c == nil || e != api.OK {
		t.Fatalf("Timer(5, 3): %d %v %d", id, c, e)
	}
	if f, ok := s.Fire(9); f.When != 8 || f.At != 9 || !ok {
		t.Errorf("Fire(9): %v %v", f, ok)
	}
}

// The document's own example: a Timer of 10 that is stopped at 20, its value not received.
func TestP13_2TheWholesExample(t *testing.T) {
	s := timer.New()
	id, c, _ := s.Timer(0, 10)
	if f, ok := s.Fire(20); !f.Kept || !ok {
		t.Fatalf("Fire(20): %v %v", f, ok)
	}
	if was, e := s.Stop(id); !was || e != api.OK {
		t.Errorf("Stop: %v %d", was, e)
	}
	if v, ok, done, _ := c.Recv(); ok || done {
		t.Errorf("received: %d %v %v", v, ok, done)
	}
}

func TestP13_1NewIsNone(t *testing.T) {
	p := none(t)
	p.holds(t, "new")
	p.not(t, "new", edges()...)
	for _, n := range edges() {
		p.fire(t, n)
		p.stop(t, n)
		for _, now := range edges() {
			p.reset(t, n, now, 1)
			p.reset(t, n, 1, now)
		}
	}
	p.holds(t, "new still")
	p.not(t, "new still", edges()...)
}

func TestP13_1WhenItIsDue(t *testing.T) {
	for _, c := range []struct{ now, d, when int }{
		{0, 0, 0},
		{0, 5, 5},
		{5, 3, 8},
		{5, 0, 5},
		{5, -1, 5},
		{5, math.MinInt, 5},
		{0, top, top},
		{0, top + 1, top},
		{0, math.MaxInt, top},
		{1, top, top},
		{7, top - 7, top},
		{7, top - 8, top - 1},
		{7, top - 6, top},
		{top - 1, 1, top},
		{top - 1, 2, top},
		{top, 0, top},
		{top, 1, top},
		{top, -1, top},
		{top, top, top},
		{top, math.MaxInt, top},
	} {
		a, b, l, k := timer.New(), timer.New(), timer.New(), timer.New()
		a.Timer(c.now, c.d)
		b.Func(c.now, c.d, 1)
		l.Lapse(c.when, 1)
		k.Ticker(c.now, c.d)
		for i, s := range []*timer.Set{a, b, l, k} {
			if c.d < 1 && i == 3 {
				continue
			}
			if when, ok := s.Next(); when != c.when || !ok {
				t.Errorf("%v, set %d: Next %d %v", c, i, when, ok)
			}
		}
	}
}

// Each now with each duration, of each kind: it is due so, or refused.
func TestP13_1EachEdge(t *testing.T) {
	for _, kind := range kinds() {
		for _, now := range edges() {
			for _, d := range edges() {
				p := none(t)
				p.makes(t, kind, now, d, 3)
				p.holds(t, "the one")
				p.makes(t, kind, 5, 5, 0)
				p.holds(t, "another")
				for _, at := range []int{-1, 0, 1, 5, top / 2, top - 1, top, top + 1, math.MaxInt} {
					p.runs(t, "fired", at)
				}
			}
		}
	}
}

// Each program, and each context: it is Data, or refused.
func TestP13_1EachData(t *testing.T) {
	for _, data := range edges() {
		for _, now := range []int{-1, 0, 5, top, top + 1} {
			for _, kind := range []int{timer.Func, timer.Lapse} {
				p := none(t)
				p.makes(t, kind, now, 4, data)
				p.holds(t, "data")
				p.runs(t, "data, fired", top)
			}
		}
	}
}

func TestP13_1LapseIsDueAtItsWhen(t *testing.T) {
	for _, when := range edges() {
		p := none(t)
		p.makes(t, timer.Lapse, 0, when, 0)
		if got, ok := p.s.Next(); got != clamp(when) || !ok {
			t.Errorf("Lapse(%d, 0): Next %d %v", when, got, ok)
		}
		if p.fire(t, clamp(when)-1) || !p.fire(t, clamp(when)) || p.fire(t, top) {
			t.Errorf("Lapse(%d, 0): not fired at its time", when)
		}
		p.holds(t, "fired")
	}
}

func TestP13_1Refuses(t *testing.T) {
	s := timer.New()
	for _, now := range []int{-1, math.MinInt, top + 1, math.MaxInt} {
		if id, c, e := s.Timer(now, 5); id != 0 || c != nil || e != api.ErrArg {
			t.Errorf("Timer(%d, 5): %d %v %d", now, id, c, e)
		}
		if id, c, e := s.Ticker(now, 5); id != 0 || c != nil || e != api.ErrArg {
			t.Errorf("Ticker(%d, 5): %d %v %d", now, id, c, e)
		}
		if id, e := s.Func(now, 5, 0); id != 0 || e != api.ErrArg {
			t.Errorf("Func(%d, 5, 0): %d %d", now, id, e)
		}
	}
	for _, d := range []int{0, -1, math.MinInt} {
		if id, c, e := s.Ticker(5, d); id != 0 || c != nil || e != api.ErrArg {
			t.Errorf("Ticker(5, %d): %d %v %d", d, id, c, e)
		}
	}
	for _, data := range []int{-1, math.MinInt} {
		if id, e := s.Func(5, 5, data); id != 0 || e != api.ErrArg {
			t.Errorf("Func(5, 5, %d): %d %d", data, id, e)
		}
		if id, e := s.Lapse(5, data); id != 0 || e != api.ErrArg {
			t.Errorf("Lapse(5, %d): %d %d", data, id, e)
		}
	}
	if _, ok := s.Next(); ok || s.Len() != 0 {
		t.Errorf("all refused, but %d are there", s.Len())
	}
}

// refuseAll has each making refused.
func (p *plain) refuseAll(t *testing.T) {
	t.Helper()
	for _, n := range []int{-1, math.MinInt} {
		p.makes(t, timer.Timer, n, 1, 0)
		p.makes(t, timer.Timer, top-n, 1, 0)
		p.makes(t, timer.Ticker, n, 1, 0)
		p.makes(t, timer.Ticker, 5, n+1, 0)
		p.makes(t, timer.Func, n, 1, 0)
		p.makes(t, timer.Func, 5, 1, n)
		p.makes(t, timer.Lapse, 0, 5, n)
	}
}

// Who is refused takes no number and no room, and is not armed.
func TestP13_1RefusedIsNotThere(t *testing.T) {
	p := none(t)
	for n := range 64 {
		p.refuseAll(t)
		if e := p.makes(t, 1+n%3, n, 1+n%7, n); e != api.OK {
			t.Fatalf("the %d-th: %d", n, e)
		}
		p.holds(t, "refused between")
	}
	p.refuseAll(t)
	p.holds(t, "refused at the end")
	p.runs(t, "refused, fired", 100)
}

// Each kind fills it, and no other is then taken, but a Lapse; what may not be is told ahead of that.
func TestP13_1SoManyAndNoMore(t *testing.T) {
	if api.MaxTimers != 64 {
		t.Fatalf("MaxTimers: %d", api.MaxTimers)
	}
	for _, row := range [][]int{{timer.Timer}, {timer.Ticker}, {timer.Func}, {timer.Timer, timer.Ticker, timer.Func},
		{timer.Timer, timer.Lapse}, {timer.Lapse, timer.Lapse, timer.Func}, {timer.Ticker, timer.Lapse, timer.Func, timer.Timer}} {
		p, made := none(t), 0
		for i := 0; made < 64; i++ {
			kind := row[i%len(row)]
			if e := p.makes(t, kind, 5, 5, 5); e != api.OK {
				t.Fatalf("%v: the %d-th: %d", row, i, e)
			}
			if kind != timer.Lapse {
				made++
			}
		}
		full := p.s.Len()
		for _, kind := range kinds()[:3] {
			if e := p.makes(t, kind, 5, 5, 5); e != api.ErrFull {
				t.Errorf("%v: kind %d more: %d", row, kind, e)
			}
		}
		p.refuseAll(t)
		p.holds(t, "full")
		for range 100 {
			if e := p.makes(t, timer.Lapse, 0, 5, 5); e != api.OK {
				t.Fatalf("%v: a Lapse more: %d", row, e)
			}
		}
		p.holds(t, "full, and Lapses")
		// Who is stopped, or fired, is there yet.
		for id := range full / 2 {
			p.stop(t, id)
		}
		p.runs(t, "full, fired", 20)
		for _, kind := range kinds() {
			p.makes(t, kind, 5, 5, 5)
		}
		p.holds(t, "full still")
	}
}

func TestP13_1LapsesHaveNoLimit(t *testing.T) {
	p := none(t)
	for i := range 1200 {
		if e := p.makes(t, timer.Lapse, 0, i%50, i); e != api.OK {
			t.Fatalf("the %d-th: %d", i, e)
		}
	}
	for i := range 64 {
		if e := p.makes(t, timer.Timer, i, 3, 0); e != api.OK {
			t.Fatalf("behind Lapses, the %d-th: %d", i, e)
		}
	}
	p.makes(t, timer.Func, 0, 0, 0)
	p.runs(t, "many", 40)
}

func TestP13_1NumbersOfAllKinds(t *testing.T) {
	s := timer.New()
	a, _, _ := s.Timer(0, 1)
	b, _ := s.Lapse(0, 1)
	c, _, _ := s.Ticker(0, 1)
	s.Stop(a)
	d, _ := s.Func(0, 1, 1)
	s.Fire(9)
	e, _ := s.Lapse(0, 1)
	f, _, _ := s.Timer(0, 1)
	if got := []int{a, b, c, d, e, f}; !slices.Equal(got, []int{0, 1, 2, 3, 4, 5}) {
		t.Errorf("numbers: %v", got)
	}
}

func TestP13_1TheChannelIsATimedOne(t *testing.T) {
	p := four(t)
	for id := range 2 {
		c := p.s.Chan(id)
		if c.Cap() != 0 || c.Len() != 0 || c.Closed() || c.Can(true) || c.Can(false) {
			t.Errorf("%d: Cap %d, Len %d, or it can be done", id, c.Cap(), c.Len())
		}
		if _, _, e := c.Send(1); e != api.ErrKind {
			t.Errorf("%d: Send: %d", id, e)
		}
		if _, e := c.Close(); e != api.ErrKind {
			t.Errorf("%d: Close: %d", id, e)
		}
		if _, kept := c.Put(1); !kept {
			t.Errorf("%d: Put is not kept", id)
		}
		if _, kept := c.Put(2); kept {
			t.Errorf("%d: there is room for two", id)
		}
		if !c.Drop() {
			t.Errorf("%d: nothing is dropped", id)
		}
	}
	if p.s.Chan(0) == p.s.Chan(1) {
		t.Error("two have one channel")
	}
}

func TestP13_2StopWhatIsArmed(t *testing.T) {
	for id := range 4 {
		p := four(t)
		if was, e := p.s.Stop(id); !was || e != api.OK {
			t.Errorf("Stop(%d): %v %d", id, was, e)
		}
		p.quiet(id)
		p.holds(t, "stopped")
		if was, e := p.s.Stop(id); was || e != api.OK {
			t.Errorf("Stop(%d) again: %v %d", id, was, e)
		}
		p.holds(t, "stopped again")
		for now := range 30 {
			p.runs(t, "stopped, fired", now)
		}
	}
}

func TestP13_2StopWhatFired(t *testing.T) {
	for _, received := range []bool{false, true} {
		p := four(t)
		p.runs(t, "fired", 11)
		for id := range 4 {
			if received && id < 2 {
				p.recv(t, id)
			}
			want := id == 1 || id == 0 && !received
			if was, e := p.s.Stop(id); was != want || e != api.OK {
				t.Errorf("Stop(%d), received %v: %v %d", id, received, was, e)
			}
			p.quiet(id)
			p.holds(t, "stopped")
			p.stop(t, id)
		}
		p.runs(t, "stopped, fired", 90)
	}
}

// A Ticker that is armed and has a value: both are gone at once, and told once.
func TestP13_2StopATickerWithAValue(t *testing.T) {
	for _, reset := range []bool{false, true} {
		s := timer.New()
		id, c, _ := s.Ticker(0, 5)
		s.Fire(5)
		var was bool
		if reset {
			was, _ = s.Reset(id, 6, 5)
		} else {
			was, _ = s.Stop(id)
		}
		if !was || c.Can(false) {
			t.Errorf("reset %v: %v, a value %v", reset, was, c.Can(false))
		}
		if was, _ := s.Stop(id); was != reset {
			t.Errorf("reset %v: Stop then: %v", reset, was)
		}
	}
}

// Stop of a Timer whose value went to one who waits tells false: nothing of it is left.
func TestP13_2StopWhatWasHandedOver(t *testing.T) {
	p := four(t)
	p.waits(t, 0, 4)
	p.runs(t, "handed over", 8)
	if was, e := p.s.Stop(0); was || e != api.OK {
		t.Errorf("Stop: %v %d", was, e)
	}
	p.holds(t, "handed over, stopped")
}

// Who waits goes on waiting behind Stop and Reset.
func TestP13_2WhoWaitsGoesOnWaiting(t *testing.T) {
	p := four(t)
	for id := range 2 {
		p.waits(t, id, 4)
		p.waits(t, id, 5)
		p.stop(t, id)
		p.holds(t, "stopped, and waited for")
		p.reset(t, id, 20, 3)
		p.holds(t, "armed anew, and waited for")
	}
	for now := range 40 {
		p.runs(t, "fired, and waited for", now)
	}
}

func TestP13_2Nobody(t *testing.T) {
	p := four(t)
	for _, id := range append(edges(), 4, 5, 64, 1000) {
		if p.has(id) {
			continue
		}
		p.stop(t, id)
		for _, n := range []int{math.MinInt, -1, 0, 1, 5, top, top + 1} {
			p.reset(t, id, n, 5)
			p.reset(t, id, 5, n)
		}
		p.not(t, "nobody", id)
	}
	p.holds(t, "nobody")
	for now := range 30 {
		p.runs(t, "nobody, fired", now)
	}
}

// Each of each kind with each now and each duration, armed, fired, stopped or received: armed anew so, or refused.
func TestP13_2ResetAtEachEdge(t *testing.T) {
	for id := range 4 {
		for _, now := range edges() {
			for _, d := range edges() {
				for state := range 4 {
					p := four(t)
					if state > 0 {
						p.runs(t, "fired", 9+state)
					}
					if state == 2 {
						p.stop(t, id)
					}
					if state == 3 && id < 2 {
						p.recv(t, id)
					}
					p.reset(t, id, now, d)
					p.holds(t, "reset")
					p.runs(t, "reset, fired at MaxTime less one", top-1)
					p.runs(t, "reset, fired at MaxTime", top)
				}
			}
		}
	}
}

func TestP13_2ResetRefuses(t *testing.T) {
	p := four(t)
	p.fire(t, 8)
	p.fire(t, 9)
	for _, c := range []struct {
		id, now, d int
		want       api.Errno
	}{
		{0, -1, 5, api.ErrArg},
		{0, math.MinInt, 5, api.ErrArg},
		{0, top + 1, 5, api.ErrArg},
		{1, -1, 5, api.ErrArg},
		{1, math.MaxInt, 5, api.ErrArg},
		{1, 5, 0, api.ErrArg},
		{1, 5, -1, api.ErrArg},
		{1, 5, math.MinInt, api.ErrArg},
		{2, -1, 5, api.ErrArg},
		{2, top + 1, 5, api.ErrArg},
		{3, 5, 5, api.ErrKind},
		{3, 5, 0, api.ErrKind},
		{3, 0, -1, api.ErrKind},
		{3, top, 1, api.ErrKind},
		{3, -1, 5, api.ErrArg},
		{3, top + 1, 5, api.ErrArg},
		{4, -1, 5, api.ErrNone},
		{-1, top + 1, 5, api.ErrNone},
		{4, 5, 0, api.ErrNone},
	} {
		if was, e := p.s.Reset(c.id, c.now, c.d); was || e != c.want {
			t.Errorf("Reset(%d, %d, %d): %v %d, not %d", c.id, c.now, c.d, was, e, c.want)
		}
		// Neither what was armed nor the values are other than they were.
		p.holds(t, "refused")
	}
	for now := range 30 {
		p.runs(t, "refused, fired", now)
	}
}

func TestP13_2ResetTellsWhatStopTells(t *testing.T) {
	for id := range 3 {
		for _, at := range []int{5, 8, 9, 10, 11, 13} {
			for _, received := range []bool{false, true} {
				a, b := four(t), four(t)
				for _, p := range []*plain{a, b} {
					p.runs(t, "fired", at)
					if received && id < 2 {
						p.recv(t, id)
					}
				}
				want, _ := a.s.Stop(id)
				if was, e := b.s.Reset(id, at, 5); was != want || e != api.OK {
					t.Errorf("Reset(%d, %d, 5): %v %d, but Stop %v", id, at, was, e, want)
				}
			}
		}
	}
}

// It is armed as it was made: of its kind, with its data, on its channel; a Ticker with the new period.
func TestP13_2ArmedAsItWasMade(t *testing.T) {
	for id := range 3 {
		for _, d := range []int{1, 2, 7} {
			for _, stopped := range []bool{false, true} {
				p := four(t)
				if stopped {
					p.stop(t, id)
				}
				p.reset(t, id, 6, d)
				p.holds(t, "armed anew")
				for now := range 50 {
					p.runs(t, "armed anew, fired", now)
					if id < 2 && now%3 == 0 {
						p.recv(t, id)
					}
				}
			}
		}
	}
}

func TestP13_2ATickersPeriodIsD(t *testing.T) {
	s := timer.New()
	id, _, _ := s.Ticker(0, 5)
	s.Reset(id, 3, 7)
	for _, c := range []struct{ now, when, next int }{{10, 10, 17}, {30, 17, 31}, {31, 31, 38}} {
		f, ok := s.Fire(c.now)
		next, _ := s.Next()
		if f.When != c.when || !ok || next != c.next {
			t.Errorf("Fire(%d): %v %v, then %d, not %v", c.now, f, ok, next, c)
		}
	}
}

func TestP13_2TimersAndFuncsHaveNoPeriod(t *testing.T) {
	p := four(t)
	for _, id := range []int{0, 2} {
		p.reset(t, id, 5, 1)
	}
	p.stop(t, 1)
	p.runs(t, "fired", 30)
	if when, ok := p.s.Next(); ok {
		t.Errorf("all fired, but one is due at %d", when)
	}
}

// Who is armed anew stands behind the others of its time.
func TestP13_2ArmedAnewBehindTheOthers(t *testing.T) {
	p := none(t)
	for range 3 {
		p.makes(t, timer.Timer, 0, 5, 0)
	}
	p.reset(t, 0, 2, 3)
	var ids []int
	for range 3 {
		f, _ := p.s.Fire(5)
		ids = append(ids, f.ID)
	}
	if !slices.Equal(ids, []int{1, 2, 0}) {
		t.Errorf("fired: %v", ids)
	}
}

func TestP13_2GenCountsArming(t *testing.T) {
	p := four(t)
	for _, c := range []struct {
		do   func()
		gens []int
	}{
		{func() {}, []int{1, 1, 1, 1}},
		{func() { p.s.Reset(0, 0, 5) }, []int{2, 1, 1, 1}},
		{func() { p.s.Reset(1, 0, 5) }, []int{2, 2, 1, 1}},
		{func() { p.s.Reset(1, 0, 0) }, []int{2, 2, 1, 1}},
		{func() { p.s.Reset(2, 0, 5) }, []int{2, 2, 2, 1}},
		{func() { p.s.Reset(2, -1, 5) }, []int{2, 2, 2, 1}},
		{func() { p.s.Reset(3, 0, 5) }, []int{2, 2, 2, 1}},
		{func() { p.s.Stop(0); p.s.Stop(3) }, []int{2, 2, 2, 1}},
		{func() { p.s.Reset(0, 0, 5) }, []int{3, 2, 2, 1}},
		{func() { p.s.Fire(90); p.s.Fire(90); p.s.Fire(90) }, []int{3, 2, 2, 1}},
		{func() { p.s.Fire(95); p.s.Reset(1, 9, 9) }, []int{3, 3, 2, 1}},
	} {
		c.do()
		var got []int
		for id := range 4 {
			got = append(got, p.s.Gen(id))
		}
		if !slices.Equal(got, c.gens) {
			t.Errorf("armed: %v, not %v", got, c.gens)
		}
	}
	for n := 2; n < 200; n++ {
		p.s.Reset(0, n, n)
		if got := p.s.Gen(0); got != n+2 {
			t.Fatalf("armed: %d, not %d", got, n+2)
		}
	}
}

func TestP13_3FireTellsOfEachKind(t *testing.T) {
	s := timer.New()
	s.Func(0, 9, 6)
	s.Timer(0, 9)
	s.Lapse(9, 7)
	_, c, _ := s.Ticker(0, 4)
	_, d, _ := s.Timer(0, 10)
	c.Wait(api.Wait{Task: 2, Case: 3, Value: 5}, false)
	c.Wait(api.Wait{Task: 1}, false)
	d.Wait(api.Wait{Task: 9, Case: 1}, false)
	if f, ok := s.Fire(3); !same(f, timer.Fired{}) || ok {
		t.Errorf("Fire(3): %v %v", f, ok)
	}
	for _, want := range []timer.Fired{
		{ID: 3, Kind: timer.Ticker, When: 4, At: 11, Wakes: []api.Wake{{Task: 2, Case: 3, Value: 11, OK: true}}, Kept: true},
		{ID: 0, Kind: timer.Func, When: 9, At: 11, Data: 6},
		{ID: 1, Kind: timer.Timer, When: 9, At: 11, Kept: true},
		{ID: 2, Kind: timer.Lapse, When: 9, At: 11, Data: 7},
		{ID: 4, Kind: timer.Timer, When: 10, At: 11, Wakes: []api.Wake{{Task: 9, Case: 1, Value: 11, OK: true}}, Kept: true},
	} {
		if f, ok := s.Fire(11); !same(f, want) || !ok {
			t.Errorf("Fire(11): %v %v, not %v", f, ok, want)
		}
	}
	if f, ok := s.Fire(11); !same(f, timer.Fired{}) || ok {
		t.Errorf("Fire(11), all fired: %v %v", f, ok)
	}
	for _, want := range []timer.Fired{
		{ID: 3, Kind: timer.Ticker, When: 12, At: 12, Wakes: []api.Wake{{Task: 1, Value: 12, OK: true}}, Kept: true},
		{ID: 3, Kind: timer.Ticker, When: 16, At: 16, Kept: true},
		{ID: 3, Kind: timer.Ticker, When: 20, At: 21},
	} {
		if f, ok := s.Fire(want.At); !same(f, want) || !ok {
			t.Errorf("Fire(%d): %v %v, not %v", want.At, f, ok, want)
		}
	}
	if v, _, _, _ := c.Recv(); v != 16 {
		t.Errorf("received: %d, not 16", v)
	}
}

// Who is due later than now does not fire, not even by one.
func TestP13_3NotAheadOfItsTime(t *testing.T) {
	for _, kind := range kinds() {
		for when := range 12 {
			for now := -3; now < 15; now++ {
				p := none(t)
				p.makes(t, kind, 0, when, 1)
				p.makes(t, kind, 0, when+1, 2)
				p.runs(t, "not ahead", now)
			}
		}
		for _, when := range edges() {
			for _, now := range edges() {
				p := none(t)
				p.makes(t, kind, 0, when, 1)
				p.runs(t, "not ahead, at edges", now)
			}
		}
	}
}

// A now above MaxTime is told, and put, as it is.
func TestP13_3FireAboveMaxTime(t *testing.T) {
	for _, now := range []int{top, top + 1, math.MaxInt} {
		p := none(t)
		p.makes(t, timer.Timer, top, 5, 0)
		p.makes(t, timer.Ticker, 0, 5, 0)
		p.runs(t, "above", now)
		for id := range 2 {
			if v, ok, _, _ := p.s.Chan(id).Recv(); v != now || !ok {
				t.Errorf("received of %d: %d %v, not %d", id, v, ok, now)
			}
		}
	}
}

func TestP13_3FiredByTimeThenByArming(t *testing.T) {
	p := none(t)
	for i, when := range []int{7, 3, 7, 3, 5, 0} {
		p.makes(t, kinds()[i%4], 0, max(1, when), i)
	}
	var ids []int
	for f, ok := p.s.Fire(7); ok; f, ok = p.s.Fire(7) {
		ids = append(ids, f.ID)
	}
	if want := []int{5, 1, 3, 4, 0, 2}; !slices.Equal(ids, want) {
		t.Errorf("fired: %v, not %v", ids, want)
	}
}

func TestP13_3ChanAndKind(t *testing.T) {
	s := timer.New()
	_, a, _ := s.Timer(0, 5)
	_, b, _ := s.Ticker(0, 5)
	s.Func(0, 5, 1)
	s.Lapse(5, 1)
	for id, want := range []*chanq.Chan{a, b, nil, nil, nil} {
		if got := s.Chan(id); got != want {
			t.Errorf("Chan(%d): %p, not %p", id, got, want)
		}
		if got := s.Kind(id); got != (id+1)%5 {
			t.Errorf("Kind(%d): %d", id, got)
		}
	}
	if s.Chan(-1) != nil || s.Kind(-1) != 0 || s.Gen(-1) != 0 {
		t.Error("-1 is there")
	}
	// Neither firing nor stopping changes them.
	for s.Stop(0); s.Len() == 4; {
		if _, ok := s.Fire(5); !ok {
			break
		}
	}
	if s.Chan(0) != a || s.Chan(1) != b || s.Kind(0) != timer.Timer || s.Kind(3) != timer.Lapse || s.Len() != 4 {
		t.Error("they are others, fired")
	}
}

func TestP13_3NextIsTheLeast(t *testing.T) {
	p := none(t)
	for i, d := range []int{9, 9, 5, 7, 5, top, 1, 0, 3} {
		p.makes(t, kinds()[i%4], 0, d, 0)
		p.holds(t, "made")
	}
	for id := range 9 {
		p.stop(t, 8-id)
		p.holds(t, "stopped")
	}
}

func TestP13_3NilSet(t *testing.T) {
	var s *timer.Set
	if id, c, e := s.Timer(0, 1); id != 0 || c != nil || e != api.ErrFull {
		t.Errorf("Timer: %d %v %d", id, c, e)
	}
	if id, c, e := s.Ticker(0, 1); id != 0 || c != nil || e != api.ErrFull {
		t.Errorf("Ticker: %d %v %d", id, c, e)
	}
	if id, e := s.Func(0, 1, 0); id != 0 || e != api.ErrFull {
		t.Errorf("Func: %d %d", id, e)
	}
	if id, e := s.Lapse(0, 0); id != 0 || e != api.ErrFull {
		t.Errorf("Lapse: %d %d", id, e)
	}
	p := &plain{s: s}
	for _, n := range edges() {
		for _, kind := range kinds() {
			p.makes(t, kind, n, 1, 0)
			p.makes(t, kind, 0, n, 0)
			p.makes(t, kind, 0, 1, n)
		}
		p.stop(t, n)
		p.reset(t, n, 0, 1)
		p.reset(t, 0, n, 1)
		p.reset(t, 0, 0, n)
		p.fire(t, n)
		p.not(t, "nil", n)
	}
	p.holds(t, "nil")
}

// A Set that New did not make is an empty one.
func TestP13_3SetOfNoMaking(t *testing.T) {
	for _, kind := range kinds() {
		p := &plain{s: &timer.Set{}}
		p.holds(t, "not made")
		p.fire(t, top)
		p.stop(t, 0)
		p.reset(t, 0, 0, 1)
		p.refuseAll(t)
		p.makes(t, kind, 3, 5, 1)
		p.holds(t, "not made, armed")
		p.runs(t, "not made, fired", 9)
		p.reset(t, 0, 3, 9)
		p.stop(t, 0)
		p.holds(t, "not made, stopped")
	}
}

// What is received is not before the When of the latest arming, and behind Stop and Reset none that is elder.
func TestP13_4NoneIsElder(t *testing.T) {
	for _, kind := range kinds()[:2] {
		for fired := range 20 {
			for _, d := range []int{1, 3, 10} {
				p := none(t)
				p.makes(t, kind, 0, 4, 0)
				for now := range fired {
					p.runs(t, "elder", now)
				}
				p.reset(t, 0, fired, d)
				p.recv(t, 0)
				for now := fired; now < fired+d; now++ {
					p.runs(t, "elder, anew", now)
					p.recv(t, 0)
				}
				p.runs(t, "elder, at its time", fired+d)
				if !p.s.Chan(0).Can(false) {
					t.Fatalf("kind %d, %d, %d: nothing is there at its time", kind, fired, d)
				}
				p.stop(t, 0)
				p.recv(t, 0)
				p.runs(t, "elder, stopped", fired+30)
				p.recv(t, 0)
			}
		}
	}
}

func TestP13_4ATickerHasOneValueAtMost(t *testing.T) {
	s := timer.New()
	_, c, _ := s.Ticker(0, 5)
	for now := range 100 {
		for _, ok := s.Fire(now); ok; _, ok = s.Fire(now) {
		}
	}
	if v, ok, _, _ := c.Recv(); v != 5 || !ok {
		t.Errorf("received: %d %v, not 5", v, ok)
	}
	if v, ok, done, _ := c.Recv(); ok || done {
		t.Errorf("received then: %d %v %v", v, ok, done)
	}
}

func TestP13_4WakesAreNewMemory(t *testing.T) {
	s := timer.New()
	_, c, _ := s.Ticker(0, 5)
	for task := range 3 {
		c.Wait(api.Wait{Task: task}, false)
	}
	a, _ := s.Fire(5)
	was := slices.Clone(a.Wakes)
	b, _ := s.Fire(10)
	if !slices.Equal(a.Wakes, was) || len(a.Wakes) != 1 || len(b.Wakes) != 1 {
		t.Fatalf("woken: %v %v", a.Wakes, b.Wakes)
	}
	a.Wakes[0].Task = 77
	_ = append(a.Wakes, api.Wake{Task: 78})
	if b.Wakes[0].Task != 1 || !slices.Equal(c.Waiting(false), []api.Wait{{Task: 2}}) {
		t.Errorf("woken: %v, and %v waits", b.Wakes, c.Waiting(false))
	}
}

// eachRow is each row of so many numbers, of 0 to most - 1 each.
func eachRow(row []int, left, most int, do func([]int)) {
	do(row)
	for n := range most {
		if left > 0 {
			eachRow(append(slices.Clip(row), n), left-1, most, do)
		}
	}
}

// Each row of so many steps with a Timer and a Ticker of 2, a now that goes on by one at each.
func TestP13_4EachRowOfSteps(t *testing.T) {
	eachRow(nil, 5, 11, func(row []int) {
		p := none(t)
		p.makes(t, timer.Timer, 0, 2, 0)
		p.makes(t, timer.Ticker, 0, 2, 0)
		for now, step := range row {
			id := step % 2
			switch step / 2 {
			case 0:
				p.stop(t, id)
			case 1:
				p.reset(t, id, now, 1)
			case 2:
				p.reset(t, id, now, 0)
			case 3:
				p.recv(t, id)
			case 4:
				p.waits(t, id, now)
			default:
				p.fire(t, now+1)
			}
		}
		p.holds(t, "each row of steps")
		p.runs(t, "each row of steps, fired", len(row)+1)
		p.recv(t, 0)
		p.recv(t, 1)
		p.runs(t, "each row of steps, fired later", len(row)+4)
	})
}

// step does one thing that chance says.
func (p *plain) step(t *testing.T, chance *rand.Rand, now int) {
	t.Helper()
	far, id := edges(), chance.Intn(len(p.all)+1)-chance.Intn(2)
	some := func() int { return far[chance.Intn(len(far))] }
	switch chance.Intn(12) {
	case 0, 1:
		p.makes(t, kinds()[chance.Intn(4)], now, chance.Intn(14)-2, chance.Intn(9)-1)
	case 2:
		p.makes(t, kinds()[chance.Intn(4)], some(), some(), some())
	case 3:
		p.stop(t, id)
	case 4, 5:
		p.reset(t, id, now, chance.Intn(14)-2)
	case 6:
		p.reset(t, id, some(), some())
	case 7, 8:
		if p.has(id) && p.all[id].c != nil {
			p.recv(t, id)
		}
	case 9:
		if p.has(id) {
			p.waits(t, id, chance.Intn(20))
		}
	case 10:
		p.fire(t, now)
	default:
		p.runs(t, "by chance", now)
	}
	p.holds(t, "by chance")
}

func TestP13_4ByChance(t *testing.T) {
	chance := rand.New(rand.NewSource(13))
	for times := 1; times < 400; times++ {
		p, now := none(t), 0
		for range times {
			p.step(t, chance, now)
			now += chance.Intn(3)
		}
		p.runs(t, "by chance, at the end", now+9)
		p.runs(t, "by chance, at the last", top)
	}
}

func TestSetsHaveNothingInCommon(t *testing.T) {
	a, b := four(t), none(t)
	b.holds(t, "the other")
	b.makes(t, timer.Ticker, 1, 2, 0)
	a.holds(t, "the one")
	b.reset(t, 0, 4, 3)
	a.stop(t, 0)
	b.runs(t, "the other, fired", 30)
	a.holds(t, "the one still")
	a.runs(t, "the one, fired", 30)
	b.holds(t, "the other still")
	for range 63 {
		b.makes(t, timer.Func, 1, 2, 0)
	}
	b.makes(t, timer.Func, 1, 2, 0)
	if e := a.makes(t, timer.Timer, 40, 2, 0); e != api.OK {
		t.Errorf("one more, the other is full: %d", e)
	}
}

// What only asks, or is refused, changes nothing that is told later.
func TestAskingChangesNothing(t *testing.T) {
	p := four(t)
	for now := range 40 {
		for range 3 {
			p.s.Len()
			p.s.Next()
			for _, id := range edges() {
				p.s.Chan(id)
				p.s.Kind(id)
				p.s.Gen(id)
			}
			p.fire(t, -1)
			p.stop(t, 4)
			p.reset(t, 0, -1, 1)
			p.reset(t, 1, now, 0)
			p.reset(t, 3, now, 1)
			p.refuseAll(t)
			p.holds(t, "asked")
		}
		p.runs(t, "asked, fired", now)
	}
	if got := fmt.Sprint(p.all[1].values); got != "[9]" {
		t.Errorf("the Ticker has %s", got)
	}
}
