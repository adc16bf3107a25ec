package ctx_test

import (
	"math"
	"math/rand"
	"slices"
	"testing"

	"tarpaulin/api"
	"tarpaulin/chanq"
	"tarpaulin/ctx"
	"tarpaulin/timer"
)

const top = api.MaxTime

// goesOn ends a test that has failed: a long loop would tell the same over and over.
func goesOn(t *testing.T) {
	t.Helper()
	if t.Failed() {
		t.FailNow()
	}
}

// numbers are some at their edges.
func numbers() []int {
	return []int{
		math.MinInt, math.MinInt + 1, -top - 1, -top, -1<<32 - 1, -1 << 32, -1<<32 + 1, math.MinInt32, -1000, -65, -64, -3,
		-2, -1, 0, 1, 2, 3, 4, 5, 62, 63, 64, 65, 66, 127, 128, 129, 1000, 1 << 16, math.MaxInt32, 1<<32 - 1, 1 << 32,
		1<<32 + 1, 1<<32 + 2, top, top + 1, math.MaxInt - 1, math.MaxInt,
	}
}

// times are the numbers at which a time begins or ends to be one.
func times() []int {
	return []int{
		math.MinInt, math.MinInt + 1, -top - 1, -top, -2, -1, 0, 1, 2, 9, 10, 11, top - 1, top, top + 1, math.MaxInt - 1,
		math.MaxInt,
	}
}

// clamp is a time from 0 to MaxTime.
func clamp(n int) int {
	if n < 0 {
		return 0
	}
	if n > top {
		return top
	}
	return n
}

// kid is what hangs on a context: another one, or an after.
type kid struct {
	after bool
	id    int
}

// one is a context in the plain set. Its kids are all that ever hung on it.
type one struct {
	never      bool // the background, and what Without made
	linked     bool
	err, cause int
	has, own   bool
	when       int
	timer      int // the place in the plain timers, or -1
	kids       []kid
	waits      []api.Wait
	c          *chanq.Chan
}

// after is one in the plain set.
type after struct {
	prog            int
	started, undone bool
}

// lapse is a timer of a deadline.
type lapse struct {
	when, ctx int
	armed     bool
}

// plain is a set with its timers, and beside it the same in plain lists, where each cancels its kids by itself.
type plain struct {
	s      *ctx.Set
	ts     *timer.Set
	all    []one
	afters []after
	timers []lapse
}

// on is a new set on timers, or on none.
func on(t *testing.T, ts *timer.Set) *plain {
	t.Helper()
	s := ctx.New(ts)
	if s == nil {
		t.Fatal("New: none")
	}
	return &plain{s: s, ts: ts, all: []one{{never: true, timer: -1}}}
}

// none is a new set with timers of its own.
func none(t *testing.T) *plain {
	t.Helper()
	return on(t, timer.New())
}

// has tells whether a context is there.
func (p *plain) has(id int) bool { return id >= 0 && id < len(p.all) }

// refusal is what the making of one more is refused with.
func (p *plain) refusal(parent int) api.Errno {
	switch {
	case !p.has(parent):
		return api.ErrNone
	case len(p.all) >= 64:
		return api.ErrFull
	}
	return api.OK
}

// wakes is who waits at a channel that is closed: of each task its first wait alone.
func wakes(waits []api.Wait) []api.Wake {
	var l []api.Wake
	for i, w := range waits {
		if !slices.ContainsFunc(waits[:i], func(v api.Wait) bool { return v.Task == w.Task }) {
			l = append(l, api.Wake{Task: w.Task, Case: w.Case})
		}
	}
	return l
}

// falls has one cancelled in the plain set, by the words of the chapter.
func (p *plain) falls(id, err, cause int) (lapsed []ctx.Lapsed, starts []ctx.Start) {
	o := &p.all[id]
	if o.err != api.Nil || o.never {
		return nil, nil
	}
	o.err, o.cause = err, cause
	lapsed = []ctx.Lapsed{{ID: id, Err: err, Cause: cause, Wakes: wakes(o.waits)}}
	o.waits = nil
	if o.timer >= 0 {
		p.timers[o.timer].armed = false
	}
	for _, k := range o.kids {
		switch {
		case !k.after:
			below, begun := p.falls(k.id, err, cause)
			lapsed = append(lapsed, below...)
			starts = append(starts, begun...)
		case !p.afters[k.id].undone:
			p.afters[k.id].started = true
			starts = append(starts, ctx.Start{After: k.id, Prog: p.afters[k.id].prog})
		}
	}
	return lapsed, starts
}

// sameLapsed tells whether two lists of who was cancelled are alike.
func sameLapsed(a, b []ctx.Lapsed) bool {
	return slices.EqualFunc(a, b, func(x, y ctx.Lapsed) bool {
		return x.ID == y.ID && x.Err == y.Err && x.Cause == y.Cause && slices.Equal(x.Wakes, y.Wakes)
	})
}

// made is a new context of a parent in the plain set, cancelled at once if the parent is done.
func (p *plain) made(parent int, o one) (int, []ctx.Lapsed) {
	id := len(p.all)
	o.timer = -1
	p.all = append(p.all, o)
	if !o.linked {
		return id, nil
	}
	above := &p.all[parent]
	above.kids = append(above.kids, kid{id: id})
	if above.err == api.Nil {
		return id, nil
	}
	lapsed, _ := p.falls(id, above.err, above.cause)
	return id, lapsed
}

// told tells where a making told something else than is wanted, and keeps the channel that the new one has.
func (p *plain) told(t *testing.T, what string, parent int, id, wantID int, l, want []ctx.Lapsed, e, wantE api.Errno) {
	t.Helper()
	if id != wantID || !sameLapsed(l, want) || e != wantE {
		t.Fatalf("%s of %d, behind %d: %d %v %d, not %d %v %d", what, parent, len(p.all), id, l, e, wantID, want, wantE)
	}
	if e == api.OK {
		p.all[id].c, _ = p.s.Done(id)
	}
}

// cancels makes a plain one, in both.
func (p *plain) cancels(t *testing.T, parent int) int {
	t.Helper()
	wantE := p.refusal(parent)
	wantID, want := 0, []ctx.Lapsed(nil)
	if wantE == api.OK {
		above := p.all[parent]
		wantID, want = p.made(parent, one{linked: true, when: above.when, has: above.has})
	}
	id, l, e := p.s.Cancels(parent)
	p.told(t, "Cancels", parent, id, wantID, l, want, e, wantE)
	return id
}

// deadline makes one with a deadline, in both.
func (p *plain) deadline(t *testing.T, parent, when, now int) int {
	t.Helper()
	wantE := p.refusal(parent)
	wantID, want := 0, []ctx.Lapsed(nil)
	if wantE == api.OK {
		above, held := p.all[parent], clamp(when)
		o := one{linked: true, when: held, has: true, own: true}
		if above.has && above.when <= held {
			o.when, o.own = above.when, false
		}
		wantID, want = p.made(parent, o)
		switch {
		case !o.own || p.all[wantID].err != api.Nil:
		case held <= now:
			want, _ = p.falls(wantID, api.Exceeded, api.Exceeded)
		case p.ts != nil:
			p.all[wantID].timer = len(p.timers)
			p.timers = append(p.timers, lapse{held, wantID, true})
		}
	}
	id, l, e := p.s.Deadline(parent, when, now)
	p.told(t, "Deadline", parent, id, wantID, l, want, e, wantE)
	return id
}

// without makes one on which nothing falls, in both.
func (p *plain) without(t *testing.T, parent int) int {
	t.Helper()
	wantE := p.refusal(parent)
	wantID := 0
	if wantE == api.OK {
		wantID, _ = p.made(parent, one{never: true})
	}
	id, e := p.s.Without(parent)
	p.told(t, "Without", parent, id, wantID, nil, nil, e, wantE)
	return id
}

// ends tells where who was cancelled, or what was started, is not what is wanted.
func ends(t *testing.T, what string, id int, l, wantL []ctx.Lapsed, s, wantS []ctx.Start, e, wantE api.Errno) {
	t.Helper()
	if !sameLapsed(l, wantL) || !slices.Equal(s, wantS) || e != wantE {
		t.Fatalf("%s %d: %v %v %d, not %v %v %d", what, id, l, s, e, wantL, wantS, wantE)
	}
}

// cancel cancels one, in both.
func (p *plain) cancel(t *testing.T, id, cause int) {
	t.Helper()
	var wantL []ctx.Lapsed
	var wantS []ctx.Start
	wantE := api.OK
	switch {
	case !p.has(id):
		wantE = api.ErrNone
	case p.all[id].never:
		wantE = api.ErrArg
	case cause < 1:
		wantL, wantS = p.falls(id, api.Canceled, api.Canceled)
	default:
		wantL, wantS = p.falls(id, api.Canceled, cause)
	}
	l, s, e := p.s.Cancel(id, cause)
	ends(t, "Cancel", id, l, wantL, s, wantS, e, wantE)
}

// lapse cancels one whose time is over, in both.
func (p *plain) lapse(t *testing.T, id int) {
	t.Helper()
	var wantL []ctx.Lapsed
	var wantS []ctx.Start
	wantE := api.OK
	switch {
	case !p.has(id):
		wantE = api.ErrNone
	case !p.all[id].own:
		wantE = api.ErrArg
	default:
		wantL, wantS = p.falls(id, api.Exceeded, api.Exceeded)
	}
	l, s, e := p.s.Lapse(id)
	ends(t, "Lapse", id, l, wantL, s, wantS, e, wantE)
}

// after adds one, to both.
func (p *plain) after(t *testing.T, id, prog int) int {
	t.Helper()
	wantN, wantE := 0, api.OK
	var want []ctx.Start
	switch {
	case !p.has(id):
		wantE = api.ErrNone
	case prog < 0:
		wantE = api.ErrArg
	case len(p.afters) >= 64:
		wantE = api.ErrFull
	default:
		wantN = len(p.afters)
		over := p.all[id].err != api.Nil
		p.afters = append(p.afters, after{prog: prog, started: over})
		p.all[id].kids = append(p.all[id].kids, kid{true, wantN})
		if over {
			want = []ctx.Start{{After: wantN, Prog: prog}}
		}
	}
	n, s, e := p.s.After(id, prog)
	if n != wantN || !slices.Equal(s, want) || e != wantE {
		t.Fatalf("After(%d, %d), behind %d: %d %v %d, not %d %v %d", id, prog, len(p.afters), n, s, e, wantN, want, wantE)
	}
	return n
}

// unafter takes one back, in both.
func (p *plain) unafter(t *testing.T, n int) {
	t.Helper()
	want, wantE := false, api.ErrNone
	if n >= 0 && n < len(p.afters) {
		a := &p.afters[n]
		want, wantE = !a.started && !a.undone, api.OK
		if want {
			a.undone = true
		}
	}
	if was, e := p.s.Unafter(n); was != want || e != wantE {
		t.Fatalf("Unafter(%d): %v %d, not %v %d", n, was, e, want, wantE)
	}
}

// waits has a task wait for one's end, in both.
func (p *plain) waits(t *testing.T, id, task, kase int) {
	t.Helper()
	w, want := api.Wait{Task: task, Case: kase}, api.OK
	switch {
	case p.all[id].never:
		want = api.ErrNil
	case p.all[id].err != api.Nil:
		want = api.ErrClosed
	default:
		p.all[id].waits = append(p.all[id].waits, w)
	}
	c, _ := p.s.Done(id)
	if e := c.Wait(w, false); e != want {
		t.Fatalf("%v waits for %d: %d, not %d", w, id, e, want)
	}
}

// holds tells where a set, or its timers, are not what the plain ones are.
func (p *plain) holds(t *testing.T, what string) {
	t.Helper()
	if got := p.s.Len(); got != len(p.all) {
		t.Errorf("%s: Len %d, not %d", what, got, len(p.all))
	}
	for id := range len(p.all) + 2 {
		p.stands(t, what, id)
	}
	p.due(t, what)
	goesOn(t)
}

// stands tells where one is not what it is in the plain set.
func (p *plain) stands(t *testing.T, what string, id int) {
	t.Helper()
	want, wantE := one{never: true}, api.ErrNone
	if p.has(id) {
		want, wantE = p.all[id], api.OK
	}
	if err, e := p.s.Err(id); err != want.err || e != wantE {
		t.Errorf("%s: Err(%d) %d %d, not %d %d", what, id, err, e, want.err, wantE)
	}
	if cause, e := p.s.Cause(id); cause != want.cause || e != wantE {
		t.Errorf("%s: Cause(%d) %d %d, not %d %d", what, id, cause, e, want.cause, wantE)
	}
	if when, has, e := p.s.Until(id); when != want.when || has != want.has || e != wantE {
		t.Errorf("%s: Until(%d) %d %v %d, not %d %v %d", what, id, when, has, e, want.when, want.has, wantE)
	}
	c, e := p.s.Done(id)
	if c != want.c || (c == nil) != want.never || e != wantE {
		t.Errorf("%s: Done(%d) %p %d, not %p %v %d", what, id, c, e, want.c, want.never, wantE)
	}
	if over := want.err != api.Nil; c.Closed() != over || c.Can(false) != over || !slices.Equal(c.Waiting(false), want.waits) {
		t.Errorf("%s: the channel of %d: %v %v, not %v %v", what, id, c.Closed(), c.Waiting(false), over, want.waits)
	}
}

// due tells where the timers are not what the plain ones are. (What is armed is looked for in lapses.)
func (p *plain) due(t *testing.T, what string) {
	t.Helper()
	if got := p.ts.Len(); got != len(p.timers) {
		t.Errorf("%s: %d timers, not %d", what, got, len(p.timers))
	}
	least, is := 0, false
	for _, l := range p.timers {
		if l.armed && (!is || l.when < least) {
			least, is = l.when, true
		}
	}
	if when, ok := p.ts.Next(); when != least || ok != is {
		t.Errorf("%s: the next is due at %d %v, not %d %v", what, when, ok, least, is)
	}
}

// lapses fires all timers that are due at a now, each once and in their order, and has their contexts lapse, in both.
func (p *plain) lapses(t *testing.T, now int) {
	t.Helper()
	for {
		first := -1
		for i, l := range p.timers {
			if l.armed && l.when <= now && (first < 0 || l.when < p.timers[first].when) {
				first = i
			}
		}
		f, ok := p.ts.Fire(now)
		if ok != (first >= 0) {
			t.Fatalf("at %d: %v %v, not %d of %v", now, f, ok, first, p.timers)
		}
		if !ok {
			break
		}
		l := &p.timers[first]
		if f.ID != first || f.Kind != timer.Lapse || f.When != l.when || f.Data != l.ctx {
			t.Fatalf("at %d: %v, not %d of %v", now, f, first, p.timers)
		}
		l.armed = false
		p.lapse(t, f.Data)
		p.holds(t, "lapsed")
	}
	p.holds(t, "all lapsed")
}

// sound tells where what follows of the promises does not.
func (p *plain) sound(t *testing.T, what string) {
	t.Helper()
	for id := range p.all {
		err, _ := p.s.Err(id)
		cause, _ := p.s.Cause(id)
		when, has, _ := p.s.Until(id)
		if (err == api.Nil) != (cause == 0) {
			t.Errorf("%s: %d has error %d and cause %d", what, id, err, cause)
		}
		for _, k := range p.all[id].kids {
			if k.after {
				continue
			}
			below, _ := p.s.Err(k.id)
			until, is, _ := p.s.Until(k.id)
			if err != api.Nil && below == api.Nil {
				t.Errorf("%s: %d is done, and its kid %d is not", what, id, k.id)
			}
			if has && (!is || until > when) {
				t.Errorf("%s: %d is until %d, and its kid %d until %d %v", what, id, when, k.id, until, is)
			}
		}
	}
	goesOn(t)
}

func TestTheExample(t *testing.T) {
	s := ctx.New(timer.New())
	s.Cancels(0)
	s.Cancels(1)
	l, starts, e := s.Cancel(1, 9)
	want := []ctx.Lapsed{{ID: 1, Err: api.Canceled, Cause: 9}, {ID: 2, Err: api.Canceled, Cause: 9}}
	ends(t, "Cancel", 1, l, want, starts, nil, e, api.OK)
	for id := 1; id <= 2; id++ {
		err, _ := s.Err(id)
		cause, _ := s.Cause(id)
		if err != api.Canceled || cause != 9 {
			t.Errorf("%d: error %d, cause %d", id, err, cause)
		}
	}
}

func TestP15_1TheBackground(t *testing.T) {
	for _, ts := range []*timer.Set{nil, timer.New()} {
		p := on(t, ts)
		if got := p.s.Len(); got != 1 {
			t.Errorf("Len: %d", got)
		}
		p.holds(t, "new")
		for _, cause := range numbers() {
			p.cancel(t, 0, cause)
		}
		p.lapse(t, 0)
		p.holds(t, "not to be cancelled")
		p.cancels(t, 0)
		p.deadline(t, 0, 5, 0)
		p.cancel(t, 0, 7)
		p.lapse(t, 0)
		p.holds(t, "with kids")
	}
}

func TestP15_1Cancels(t *testing.T) {
	p := none(t)
	for id := 1; id < 8; id++ {
		for parent := range id {
			if got := p.cancels(t, parent); got != len(p.all)-1 {
				t.Errorf("Cancels(%d): %d, not %d", parent, got, len(p.all)-1)
			}
			p.holds(t, "made")
		}
	}
}

// No two have one channel.
func TestP15_1ChannelsOfTheirOwn(t *testing.T) {
	p := none(t)
	seen := map[*chanq.Chan]int{}
	for i := range 30 {
		id := p.cancels(t, i)
		if i%3 == 0 {
			id = p.deadline(t, i, i, 10)
		}
		c, _ := p.s.Done(id)
		if is, twice := seen[c]; c == nil || twice {
			t.Errorf("%d: the channel of %d", id, is)
		}
		seen[c] = id
		if _, _, e := c.Send(1); e != api.ErrKind {
			t.Errorf("%d: its channel takes values: %d", id, e)
		}
		if kept := c.Drop(); kept {
			t.Errorf("%d: its channel has a value", id)
		}
	}
}

// A parent that is none, of each size: nothing is made.
func TestP15_1AParentThatIsNone(t *testing.T) {
	for n := range 5 {
		p := none(t)
		for i := range n {
			p.cancels(t, i)
		}
		for _, parent := range append(numbers(), n+1, n+2, -n, n|1<<32, n|1<<62) {
			if p.has(parent) {
				continue
			}
			if id, l, e := p.s.Cancels(parent); id != 0 || len(l) != 0 || e != api.ErrNone {
				t.Errorf("Cancels(%d) of %d: %d %v %d", parent, n, id, l, e)
			}
			for _, when := range times() {
				if id, l, e := p.s.Deadline(parent, when, 10); id != 0 || len(l) != 0 || e != api.ErrNone {
					t.Errorf("Deadline(%d, %d, 10) of %d: %d %v %d", parent, when, n, id, l, e)
				}
			}
			if id, e := p.s.Without(parent); id != 0 || e != api.ErrNone {
				t.Errorf("Without(%d) of %d: %d %d", parent, n, id, e)
			}
		}
		p.holds(t, "refused")
		p.cancels(t, n)
		p.holds(t, "no number was taken")
	}
}

// filled is sets of 64, of each way of making them, some of whom are done.
func filled(t *testing.T) []*plain {
	t.Helper()
	var l []*plain
	for way := range 6 {
		p := none(t)
		for i := range 63 {
			switch (way + i*(way/4)) % 4 {
			case 0:
				p.cancels(t, i)
			case 1:
				p.deadline(t, i, 1000-i, 0)
			case 2:
				p.without(t, i)
			default:
				p.cancels(t, 0)
			}
		}
		p.cancel(t, 40, 3)
		l = append(l, p)
	}
	return l
}

func TestP15_1Full(t *testing.T) {
	for _, p := range filled(t) {
		if got := p.s.Len(); got != 64 {
			t.Fatalf("Len: %d", got)
		}
		p.holds(t, "full")
		for _, parent := range []int{0, 1, 39, 40, 63} {
			if id, l, e := p.s.Cancels(parent); id != 0 || len(l) != 0 || e != api.ErrFull {
				t.Errorf("Cancels(%d): %d %v %d", parent, id, l, e)
			}
			for _, when := range times() {
				if id, l, e := p.s.Deadline(parent, when, 5); id != 0 || len(l) != 0 || e != api.ErrFull {
					t.Errorf("Deadline(%d, %d, 5): %d %v %d", parent, when, id, l, e)
				}
			}
			if id, e := p.s.Without(parent); id != 0 || e != api.ErrFull {
				t.Errorf("Without(%d): %d %d", parent, id, e)
			}
		}
		// A wrong parent is told ahead of the want of room.
		for _, parent := range []int{-1, 64, math.MinInt, math.MaxInt} {
			p.cancels(t, parent)
			p.deadline(t, parent, 5, 0)
			p.without(t, parent)
		}
		p.holds(t, "refused")
		// Who is done is there still.
		p.cancel(t, 1, 2)
		p.cancels(t, 0)
		p.without(t, 0)
		p.deadline(t, 0, 5, 0)
		// What hangs on them has room yet.
		p.after(t, 63, 1)
		p.holds(t, "full still")
	}
}

// Of a parent that is done, one is so at once, of its error and cause.
func TestP15_1OfAParentThatIsDone(t *testing.T) {
	for _, cause := range []int{math.MinInt, 0, 1, 2, 3, 900, math.MaxInt} {
		p := none(t)
		p.cancels(t, 0)
		p.cancel(t, 1, cause)
		id := p.cancels(t, 1)
		if err, _ := p.s.Err(id); err != api.Canceled {
			t.Errorf("error %d", err)
		}
		if got, _ := p.s.Cause(id); got != max(1, cause) {
			t.Errorf("cause %d, not %d", got, cause)
		}
		p.deadline(t, 1, 50, 10)
		p.deadline(t, 1, 5, 10)
		p.cancels(t, id)
		p.holds(t, "of one that is done")
		p.cancel(t, id, 5)
		p.without(t, 1)
		p.holds(t, "not cancelled again")
	}
	p := none(t)
	p.deadline(t, 0, 10, 0)
	p.lapse(t, 1)
	p.cancels(t, 1)
	p.deadline(t, 1, 5, 0)
	p.deadline(t, 1, 15, 0)
	p.holds(t, "of one whose time is over")
}

func TestP15_1CancelsHasItsParentsDeadline(t *testing.T) {
	p := none(t)
	p.deadline(t, 0, 10, 0)
	for i := 1; i < 5; i++ {
		id := p.cancels(t, i)
		if when, ok, e := p.s.Until(id); when != 10 || !ok || e != api.OK {
			t.Errorf("Until(%d): %d %v %d", id, when, ok, e)
		}
		p.lapse(t, id)
	}
	p.holds(t, "its parent's")
	if got := p.ts.Len(); got != 1 {
		t.Errorf("%d timers", got)
	}
}

// Each when at each now, of a parent without a deadline.
func TestP15_1DeadlineAtItsEdges(t *testing.T) {
	for _, when := range times() {
		for _, now := range times() {
			p := none(t)
			id := p.deadline(t, 0, when, now)
			if got, ok, e := p.s.Until(id); got != clamp(when) || !ok || e != api.OK {
				t.Errorf("Deadline(0, %d, %d): until %d %v %d", when, now, got, ok, e)
			}
			if _, armed := p.ts.Next(); armed != (clamp(when) > now) {
				t.Errorf("Deadline(0, %d, %d): armed %v", when, now, armed)
			}
			p.holds(t, "made")
			p.after(t, id, 3)
			p.lapses(t, top)
			if err, _ := p.s.Err(id); err != api.Exceeded {
				t.Errorf("Deadline(0, %d, %d): error %d in the end", when, now, err)
			}
		}
	}
}

// Each when at each of its parent's.
func TestP15_1DeadlineBesideItsParents(t *testing.T) {
	for _, above := range times() {
		for _, when := range times() {
			for _, now := range []int{-1, 0, 5, 10, top, math.MaxInt} {
				p := none(t)
				p.deadline(t, 0, above, -1)
				p.cancels(t, 1)
				for _, parent := range []int{1, 2} {
					id := p.deadline(t, parent, when, now)
					if got, ok, _ := p.s.Until(id); got != min(clamp(above), clamp(when)) || !ok {
						t.Errorf("%d of one until %d: until %d %v", when, above, got, ok)
					}
					p.lapse(t, id)
				}
				p.holds(t, "beside its parent's")
				p.lapses(t, top)
			}
		}
	}
}

// One that just gets its parent's deadline is cancelled by nothing of its own, be it late already.
func TestP15_1DeadlineBehindItsParents(t *testing.T) {
	p := none(t)
	p.deadline(t, 0, 10, 0)
	for _, when := range []int{10, 11, math.MaxInt} {
		id := p.deadline(t, 1, when, 99)
		if err, _ := p.s.Err(id); err != api.Nil {
			t.Errorf("until %d: error %d", when, err)
		}
		if _, _, e := p.s.Lapse(id); e != api.ErrArg {
			t.Errorf("Lapse(%d): %d", id, e)
		}
	}
	if got := p.ts.Len(); got != 1 {
		t.Errorf("%d timers", got)
	}
	p.holds(t, "as its parent")
	p.lapses(t, 10)
}

// Of a parent that is done a deadline is told, but to no timer; not after now, its parent's error counts.
func TestP15_1DeadlineOfAParentThatIsDone(t *testing.T) {
	for _, when := range []int{math.MinInt, 0, 9, 10, 11, math.MaxInt} {
		p := none(t)
		p.cancels(t, 0)
		p.cancel(t, 1, 8)
		id := p.deadline(t, 1, when, 10)
		if err, _ := p.s.Err(id); err != api.Canceled {
			t.Errorf("until %d: error %d", when, err)
		}
		if got, ok, _ := p.s.Until(id); got != clamp(when) || !ok {
			t.Errorf("until %d: %d %v", when, got, ok)
		}
		if got := p.ts.Len(); got != 0 {
			t.Errorf("until %d: %d timers", when, got)
		}
		// It has a deadline of its own, and is done.
		if l, s, e := p.s.Lapse(id); len(l) != 0 || len(s) != 0 || e != api.OK {
			t.Errorf("Lapse(%d): %v %v %d", id, l, s, e)
		}
		p.holds(t, "done at once")
	}
}

// What is done at once has no timer that it could stop: another one's stays armed.
func TestP15_1DoneAtOnceStopsNobodysTimer(t *testing.T) {
	p := none(t)
	p.deadline(t, 0, 50, 0)
	p.deadline(t, 0, 60, 0)
	p.deadline(t, 0, 5, 10)
	p.cancels(t, 3)
	p.deadline(t, 3, 4, 10)
	p.cancel(t, p.cancels(t, 0), 4)
	p.holds(t, "the others")
	p.lapses(t, 55)
	p.lapses(t, 60)
}

// A timer of somebody else's is neither taken for a deadline's nor stopped.
func TestP15_1TimersOfOthers(t *testing.T) {
	ts := timer.New()
	ts.Timer(0, 100)
	s := ctx.New(ts)
	ts.Func(0, 200, 3)
	s.Deadline(0, 50, 0)
	ts.Lapse(70, 1)
	other := ctx.New(ts)
	other.Deadline(0, 60, 0)
	if got := ts.Len(); got != 5 || ts.Kind(2) != timer.Lapse || ts.Kind(4) != timer.Lapse {
		t.Fatalf("%d timers: %d %d", got, ts.Kind(2), ts.Kind(4))
	}
	s.Cancels(0)
	s.Cancel(2, 1)
	s.Cancel(1, 1)
	for _, want := range []timer.Fired{
		{ID: 4, Kind: timer.Lapse, When: 60, At: top, Data: 1},
		{ID: 3, Kind: timer.Lapse, When: 70, At: top, Data: 1},
		{ID: 0, Kind: timer.Timer, When: 100, At: top, Kept: true},
		{ID: 1, Kind: timer.Func, When: 200, At: top, Data: 3},
	} {
		f, ok := ts.Fire(top)
		if f.ID != want.ID || f.Kind != want.Kind || f.When != want.When || f.Data != want.Data || f.Kept != want.Kept || !ok {
			t.Errorf("%v %v, not %v", f, ok, want)
		}
	}
	if f, ok := ts.Fire(top); ok {
		t.Errorf("%v", f)
	}
	if err, _ := other.Err(1); err != api.Nil {
		t.Errorf("the other set's: error %d", err)
	}
}

func TestP15_1Without(t *testing.T) {
	p := none(t)
	p.deadline(t, 0, 20, 0)
	p.cancels(t, 1)
	for _, parent := range []int{0, 1, 2} {
		id := p.without(t, parent)
		below := p.cancels(t, id)
		p.deadline(t, id, 30, 0)
		p.deadline(t, below, 40, 0)
		p.without(t, id)
		p.cancel(t, id, 4)
		p.lapse(t, id)
		p.holds(t, "without")
		if c, e := p.s.Done(id); c != nil || e != api.OK {
			t.Errorf("Done(%d): %v %d", id, c, e)
		}
		if when, ok, e := p.s.Until(below); when != 0 || ok || e != api.OK {
			t.Errorf("Until(%d): %d %v %d", below, when, ok, e)
		}
	}
	p.after(t, 3, 1)
	p.cancel(t, 1, 5)
	p.holds(t, "nothing falls on them")
	// Of who is done, too.
	id := p.without(t, 1)
	p.cancels(t, id)
	p.holds(t, "of who is done")
	p.cancel(t, 4, 6)
	p.lapses(t, 100)
}

func TestP15_2CancelRefuses(t *testing.T) {
	p := none(t)
	p.cancels(t, 0)
	p.without(t, 1)
	p.deadline(t, 2, 40, 0)
	for _, id := range append(numbers(), 1|1<<32, 3|1<<62) {
		for _, cause := range []int{-1, 0, 1, 7} {
			if p.has(id) && !p.all[id].never {
				continue
			}
			want := api.ErrNone
			if id == 0 || id == 2 {
				want = api.ErrArg
			}
			if l, s, e := p.s.Cancel(id, cause); len(l) != 0 || len(s) != 0 || e != want {
				t.Errorf("Cancel(%d, %d): %v %v %d", id, cause, l, s, e)
			}
			if l, s, e := p.s.Lapse(id); len(l) != 0 || len(s) != 0 || e != want {
				t.Errorf("Lapse(%d): %v %v %d", id, l, s, e)
			}
		}
	}
	p.holds(t, "refused")
}

func TestP15_2CancelsCause(t *testing.T) {
	for _, cause := range numbers() {
		p := none(t)
		p.cancels(t, 0)
		p.cancels(t, 1)
		want := cause
		if cause < 1 {
			want = api.Canceled
		}
		l, _, e := p.s.Cancel(1, cause)
		for _, x := range l {
			if x.Err != api.Canceled || x.Cause != want {
				t.Errorf("Cancel(1, %d): %v", cause, x)
			}
		}
		if len(l) != 2 || e != api.OK {
			t.Errorf("Cancel(1, %d): %v %d", cause, l, e)
		}
		for id := 1; id <= 2; id++ {
			if got, _ := p.s.Cause(id); got != want {
				t.Errorf("Cancel(1, %d): Cause(%d) %d", cause, id, got)
			}
		}
	}
}

// Who is done stays as it is, whatever comes.
func TestP15_2OfWhoIsDone(t *testing.T) {
	p := none(t)
	p.deadline(t, 0, 10, 0)
	p.deadline(t, 0, 20, 0)
	p.cancels(t, 1)
	p.after(t, 3, 5)
	p.cancel(t, 1, 6)
	p.lapse(t, 2)
	p.holds(t, "done")
	for _, id := range []int{1, 2, 3} {
		for _, cause := range []int{-4, 0, 1, 2, 6, 9} {
			if l, s, e := p.s.Cancel(id, cause); len(l) != 0 || len(s) != 0 || e != api.OK {
				t.Errorf("Cancel(%d, %d): %v %v %d", id, cause, l, s, e)
			}
		}
		p.lapse(t, id)
	}
	p.holds(t, "as it was")
}

func TestP15_2Lapse(t *testing.T) {
	p := none(t)
	p.cancels(t, 0)
	p.deadline(t, 1, 30, 0)
	p.cancels(t, 2)
	p.deadline(t, 3, 20, 0)
	p.deadline(t, 3, 40, 0)
	p.after(t, 4, 2)
	for _, id := range []int{0, 1, 3, 5} {
		if l, s, e := p.s.Lapse(id); len(l) != 0 || len(s) != 0 || e != api.ErrArg {
			t.Errorf("Lapse(%d): %v %v %d", id, l, s, e)
		}
	}
	p.holds(t, "refused")
	l, s, e := p.s.Lapse(4)
	ends(t, "Lapse", 4, l, []ctx.Lapsed{{ID: 4, Err: api.Exceeded, Cause: api.Exceeded}}, s, []ctx.Start{{After: 0, Prog: 2}}, e, api.OK)
	// It needs no timer to have told it.
	l, s, e = p.s.Lapse(2)
	ends(t, "Lapse", 2, l, []ctx.Lapsed{
		{ID: 2, Err: api.Exceeded, Cause: api.Exceeded},
		{ID: 3, Err: api.Exceeded, Cause: api.Exceeded},
		{ID: 5, Err: api.Exceeded, Cause: api.Exceeded},
	}, s, nil, e, api.OK)
	if when, ok := p.ts.Next(); ok {
		t.Errorf("due still at %d", when)
	}
	if err, _ := p.s.Err(1); err != api.Nil {
		t.Errorf("its parent: error %d", err)
	}
}

// It, and then kid by kid, each with all that hang on it ahead of the next; afters among them, as they came.
func TestP15_2TheOrder(t *testing.T) {
	p := none(t)
	p.cancels(t, 0)        // 1
	p.after(t, 1, 10)      // after 0
	p.cancels(t, 1)        // 2
	p.cancels(t, 1)        // 3
	p.after(t, 3, 11)      // after 1
	p.after(t, 2, 12)      // after 2
	p.cancels(t, 2)        // 4
	p.after(t, 1, 13)      // after 3
	p.deadline(t, 2, 9, 0) // 5
	p.after(t, 4, 14)      // after 4
	p.after(t, 2, 15)      // after 5
	p.cancels(t, 0)        // 6
	p.without(t, 1)        // 7
	p.cancels(t, 1)        // 8
	p.after(t, 6, 16)      // after 6
	p.after(t, 7, 17)      // after 7
	p.after(t, 8, 18)      // after 8
	l, s, e := p.s.Cancel(1, 3)
	var ids, progs []int
	for _, x := range l {
		ids = append(ids, x.ID)
	}
	for _, x := range s {
		progs = append(progs, x.Prog)
	}
	if !slices.Equal(ids, []int{1, 2, 4, 5, 3, 8}) || !slices.Equal(progs, []int{10, 12, 14, 15, 11, 13, 18}) || e != api.OK {
		t.Errorf("Cancel(1, 3): %v %v %d", ids, progs, e)
	}
	for _, x := range s {
		if want := p.afters[x.After].prog; x.Prog != want {
			t.Errorf("after %d: program %d, not %d", x.After, x.Prog, want)
		}
	}
}

// Each place of a chain, and of a star, cancelled: itself and all below, and nobody else.
func TestP15_2EachPlace(t *testing.T) {
	for id := 1; id < 12; id++ {
		for _, wide := range []bool{false, true} {
			p := none(t)
			for i := range 11 {
				if wide {
					p.cancels(t, i/3)
				} else {
					p.cancels(t, i)
				}
				p.after(t, i+1, i)
			}
			p.cancel(t, id, 2)
			p.holds(t, "one")
			p.sound(t, "one")
			p.cancel(t, 12-id, 5)
			p.cancel(t, 1, 4)
			p.holds(t, "all")
			p.sound(t, "all")
		}
	}
}

// Who waits at a channel is woken by its end, in order, and of each task one wait alone; who waits at several has a wake
// of each.
func TestP15_2Wakes(t *testing.T) {
	p := none(t)
	p.cancels(t, 0)
	p.cancels(t, 1)
	p.cancels(t, 1)
	p.cancels(t, 0)
	for i, id := range []int{2, 1, 3, 4, 1, 1, 2, 3, 3} {
		p.waits(t, id, i%4, i)
	}
	p.waits(t, 0, 1, 1)
	p.holds(t, "waiting")
	l, s, e := p.s.Cancel(1, 5)
	ends(t, "Cancel", 1, l, []ctx.Lapsed{
		{ID: 1, Err: 1, Cause: 5, Wakes: []api.Wake{{Task: 1, Case: 1}, {Task: 0, Case: 4}}},
		{ID: 2, Err: 1, Cause: 5, Wakes: []api.Wake{{Task: 0, Case: 0}, {Task: 2, Case: 6}}},
		{ID: 3, Err: 1, Cause: 5, Wakes: []api.Wake{{Task: 2, Case: 2}, {Task: 3, Case: 7}, {Task: 0, Case: 8}}},
	}, s, nil, e, api.OK)
	c, _ := p.s.Done(4)
	if got := c.Waiting(false); !slices.Equal(got, []api.Wait{{Task: 3, Case: 3}}) {
		t.Errorf("who waits at another: %v", got)
	}
	for id := 1; id <= 3; id++ {
		c, _ := p.s.Done(id)
		if got := c.Waiting(false); len(got) != 0 {
			t.Errorf("who waits at %d: %v", id, got)
		}
	}
}

func TestP15_2WakesOfLapse(t *testing.T) {
	p := none(t)
	p.deadline(t, 0, 10, 0)
	p.deadline(t, 1, 5, 0)
	p.waits(t, 2, 7, 2)
	p.waits(t, 1, 8, 1)
	p.waits(t, 1, 7, 0)
	p.lapses(t, 4)
	p.lapses(t, 7)
	p.waits(t, 2, 9, 0)
	p.lapses(t, 10)
}

// Who is cancelled stops its timer, and those of all below; all others stay armed.
func TestP15_2TimersAreStopped(t *testing.T) {
	for id := 1; id < 9; id++ {
		p := none(t)
		for i := range 8 {
			p.deadline(t, i/2, 100-i*i, 0)
		}
		p.cancel(t, id, 3)
		p.holds(t, "stopped")
		p.lapses(t, 80)
		p.lapses(t, 99)
		p.lapses(t, 100)
	}
}

// Both of one time, in the order in which they were made.
func TestP15_2DeadlinesOfOneTime(t *testing.T) {
	p := none(t)
	p.deadline(t, 0, 10, 0)
	p.deadline(t, 0, 5, 0)
	p.deadline(t, 0, 10, 0)
	p.deadline(t, 1, 5, 0)
	p.deadline(t, 3, 10, 0)
	p.lapses(t, 5)
	p.lapses(t, 10)
}

func TestP15_3After(t *testing.T) {
	p := none(t)
	p.cancels(t, 0)
	for _, id := range append(numbers(), 1|1<<32) {
		for _, prog := range numbers() {
			if p.has(id) && prog >= 0 {
				continue
			}
			// A context that is none is told ahead of a wrong program.
			want := api.ErrNone
			if p.has(id) {
				want = api.ErrArg
			}
			if n, s, e := p.s.After(id, prog); n != 0 || len(s) != 0 || e != want {
				t.Errorf("After(%d, %d): %d %v %d, not %d", id, prog, n, s, e, want)
			}
		}
	}
	if was, e := p.s.Unafter(0); was || e != api.ErrNone {
		t.Errorf("Unafter(0): %v %d", was, e)
	}
	for i, prog := range []int{0, 1, 15, 16, 1 << 32, math.MaxInt} {
		if n := p.after(t, i%2, prog); n != i {
			t.Errorf("After: %d, not %d", n, i)
		}
	}
	p.holds(t, "afters")
	p.cancel(t, 1, 1)
}

// Of who is done it is started at once, and can't be taken back.
func TestP15_3AfterOfWhoIsDone(t *testing.T) {
	p := none(t)
	p.cancels(t, 0)
	p.deadline(t, 0, 5, 6)
	p.after(t, 1, 3)
	p.cancel(t, 1, 1)
	for _, id := range []int{1, 2} {
		for _, prog := range []int{0, 7} {
			n, s, e := p.s.After(id, prog)
			if want := len(p.afters); n != want || !slices.Equal(s, []ctx.Start{{After: want, Prog: prog}}) || e != api.OK {
				t.Errorf("After(%d, %d): %d %v %d", id, prog, n, s, e)
			}
			p.afters = append(p.afters, after{prog: prog, started: true})
		}
	}
	for n := range p.afters {
		if was, e := p.s.Unafter(n); was || e != api.OK {
			t.Errorf("Unafter(%d): %v %d", n, was, e)
		}
	}
	p.cancel(t, 1, 1)
	p.cancel(t, 2, 1)
}

// Started, taken back or not: 64 were made, and no more may be.
func TestP15_3AftersFull(t *testing.T) {
	p := none(t)
	p.cancels(t, 0)
	p.cancels(t, 0)
	p.cancel(t, 2, 1)
	for i := range 64 {
		p.after(t, i%3, i)
		if i%5 == 0 {
			p.unafter(t, i)
		}
	}
	for id := range 3 {
		if n, s, e := p.s.After(id, 0); n != 0 || len(s) != 0 || e != api.ErrFull {
			t.Errorf("After(%d, 0): %d %v %d", id, n, s, e)
		}
		p.after(t, id, -1)
	}
	p.after(t, 3, 0)
	p.after(t, -1, -1)
	for i := range 64 {
		p.unafter(t, 63-i)
	}
	p.after(t, 0, 0)
	// The contexts have room yet.
	p.cancels(t, 0)
	p.cancel(t, 1, 1)
	p.holds(t, "full")
}

func TestP15_3Unafter(t *testing.T) {
	for first := range 4 {
		for step := 1; step < 4; step += 2 {
			p := none(t)
			p.cancels(t, 0)
			p.cancels(t, 1)
			for i := range 4 {
				p.after(t, 1+i%2, i)
			}
			for _, n := range append(numbers(), 0|1<<32) {
				if n < 0 || n > 3 {
					p.unafter(t, n)
				}
			}
			p.unafter(t, first)
			p.unafter(t, first)
			p.unafter(t, (first+step)%4)
			p.holds(t, "taken back")
			p.cancel(t, 1, 8)
			for n := range 4 {
				p.unafter(t, n)
			}
			p.cancel(t, 2, 8)
			p.holds(t, "cancelled")
		}
	}
}

func TestP15_3WhoIsNone(t *testing.T) {
	p := none(t)
	p.deadline(t, 0, 5, 0)
	p.cancels(t, 1)
	p.cancel(t, 2, 4)
	for _, id := range append(numbers(), 1|1<<32, 2|1<<62) {
		p.stands(t, "at the edges", id)
	}
	p.holds(t, "asked")
}

func TestP15_3NilSet(t *testing.T) {
	for _, s := range []*ctx.Set{nil, {}} {
		for _, n := range numbers() {
			if id, l, e := s.Cancels(n); id != 0 || len(l) != 0 || e != api.ErrNone {
				t.Errorf("Cancels(%d): %d %v %d", n, id, l, e)
			}
			if id, l, e := s.Deadline(n, 5, 0); id != 0 || len(l) != 0 || e != api.ErrNone {
				t.Errorf("Deadline(%d): %d %v %d", n, id, l, e)
			}
			if id, e := s.Without(n); id != 0 || e != api.ErrNone {
				t.Errorf("Without(%d): %d %d", n, id, e)
			}
			l, starts, e := s.Cancel(n, 1)
			ends(t, "Cancel", n, l, nil, starts, nil, e, api.ErrNone)
			l, starts, e = s.Lapse(n)
			ends(t, "Lapse", n, l, nil, starts, nil, e, api.ErrNone)
			if a, starts, e := s.After(n, -1); a != 0 || len(starts) != 0 || e != api.ErrNone {
				t.Errorf("After(%d): %d %v %d", n, a, starts, e)
			}
			if was, e := s.Unafter(n); was || e != api.ErrNone {
				t.Errorf("Unafter(%d): %v %d", n, was, e)
			}
			(&plain{s: s}).stands(t, "nil", n)
		}
		if got := s.Len(); got != 0 {
			t.Errorf("Len: %d", got)
		}
	}
}

// Without timers a deadline is told, and is over when it is told so.
func TestP15_3WithoutTimers(t *testing.T) {
	p := on(t, nil)
	p.deadline(t, 0, 10, 0)
	p.deadline(t, 0, 10, 10)
	p.deadline(t, 1, 5, 0)
	p.deadline(t, 1, 15, 0)
	p.cancels(t, 3)
	p.holds(t, "without timers")
	p.lapse(t, 3)
	p.lapse(t, 4)
	p.cancel(t, 1, 6)
	p.lapse(t, 1)
	p.holds(t, "without timers")
	p.sound(t, "without timers")
}

// does does one of ten things, in both, near the newest.
func (p *plain) does(t *testing.T, step, id int) {
	t.Helper()
	switch step {
	case 0:
		p.cancels(t, id)
	case 1:
		p.deadline(t, id, 10, 5)
	case 2:
		p.deadline(t, id, 8, 5)
	case 3:
		p.deadline(t, id, 5, 5)
	case 4:
		p.without(t, id)
	case 5:
		p.after(t, id, 3)
	case 6:
		p.cancel(t, id, 7)
	case 7:
		p.lapse(t, id)
	case 8:
		p.unafter(t, id)
	default:
		p.lapses(t, 8)
	}
}

// Each row of so many steps, of each of the newest two.
func TestP15_4EachRowOfSteps(t *testing.T) {
	var each func(row []int, left int)
	each = func(row []int, left int) {
		p := none(t)
		for _, step := range row {
			p.does(t, step/2, max(0, len(p.all)-1-step%2))
		}
		p.holds(t, "each row of steps")
		p.sound(t, "each row of steps")
		if left > 0 {
			for step := range 20 {
				each(append(slices.Clip(row), step), left-1)
			}
		}
	}
	each(nil, 4)
}

// One context cancelled: just those that hang on it are done by it, and what is done stays as it was.
func TestP15_4NobodyElse(t *testing.T) {
	chance := rand.New(rand.NewSource(151))
	for range 300 {
		p := none(t)
		for i := range 20 {
			p.does(t, chance.Intn(6), chance.Intn(i/2+1))
		}
		id := 1 + chance.Intn(len(p.all)-1)
		was := slices.Clone(p.all)
		l, _, _ := p.s.Cancel(id, 77)
		fell := map[int]bool{}
		for _, x := range l {
			if fell[x.ID] || was[x.ID].err != api.Nil {
				t.Errorf("%d is cancelled once more", x.ID)
			}
			fell[x.ID] = true
		}
		for other, o := range was {
			if err, _ := p.s.Err(other); !fell[other] && err != o.err {
				t.Errorf("%d has error %d, and nothing is told of it", other, err)
			}
			if cause, _ := p.s.Cause(other); !fell[other] && cause != o.cause || fell[other] && cause != 77 {
				t.Errorf("%d has cause %d, not %d", other, cause, o.cause)
			}
		}
		goesOn(t)
	}
}

// An after is started once at most, and never when it was taken back.
func TestP15_4StartedOnce(t *testing.T) {
	chance := rand.New(rand.NewSource(152))
	for range 200 {
		s := ctx.New(nil)
		started, back := map[int]bool{}, map[int]bool{}
		told := func(l []ctx.Start) {
			for _, x := range l {
				if started[x.After] || back[x.After] {
					t.Errorf("after %d is started once more: %v %v", x.After, started, back)
				}
				started[x.After] = true
			}
		}
		for range 60 {
			var l []ctx.Start
			id := chance.Intn(s.Len())
			switch chance.Intn(6) {
			case 0:
				s.Cancels(id)
			case 1:
				s.Deadline(id, 9-s.Len()/2, 1)
			case 2, 3:
				_, l, _ = s.After(id, chance.Intn(3))
			case 4:
				n := chance.Intn(20)
				if was, _ := s.Unafter(n); was {
					back[n] = true
				}
			default:
				_, l, _ = s.Cancel(id, 1)
			}
			told(l)
			if id%3 == 0 {
				_, l, _ = s.Lapse(id)
				told(l)
			}
		}
		goesOn(t)
	}
}

func TestP15_4ByChance(t *testing.T) {
	chance := rand.New(rand.NewSource(15))
	for round := range 400 {
		p := none(t)
		if round%8 == 0 {
			p = on(t, nil)
		}
		now := 0
		for range 10 + round {
			near := 1 + chance.Intn(min(len(p.all), 1+round%7))
			id := len(p.all) - near
			switch chance.Intn(14) {
			case 0, 1:
				p.cancels(t, id)
			case 2, 3:
				p.deadline(t, id, now+chance.Intn(60)-5, now)
			case 4:
				p.without(t, id)
			case 5, 6:
				p.after(t, chance.Intn(len(p.all)+1), chance.Intn(6)-1)
			case 7:
				p.unafter(t, chance.Intn(len(p.afters)+2)-1)
			case 8:
				p.cancel(t, chance.Intn(len(p.all)+1), chance.Intn(9)-2)
			case 9:
				p.lapse(t, chance.Intn(len(p.all)+1))
			case 10, 11:
				p.waits(t, chance.Intn(len(p.all)), chance.Intn(5), chance.Intn(3))
			case 12:
				p.cancel(t, id, round)
			default:
				now += chance.Intn(4)
				p.lapses(t, now)
			}
			p.holds(t, "by chance")
		}
		p.sound(t, "by chance")
		p.lapses(t, top)
		p.sound(t, "by chance, in the end")
	}
}

// A chain of 64, with an after on each: all fall by its first one.
func TestP15_4ALongChain(t *testing.T) {
	p := none(t)
	for i := range 63 {
		p.deadline(t, i, 1000-i, 0)
		p.waits(t, i+1, 5, i)
		p.after(t, i+1, i)
	}
	p.holds(t, "a chain")
	p.cancel(t, 32, 4)
	p.sound(t, "half of a chain")
	p.cancel(t, 1, 5)
	p.holds(t, "no chain any more")
	p.sound(t, "no chain any more")
	p.lapses(t, top)
}

// spoilt is what was told of a cancel, all of it written over, its spare room too.
func spoilt(l []ctx.Lapsed, s []ctx.Start) {
	for i := range l {
		w := l[i].Wakes[:cap(l[i].Wakes)]
		for j := range w {
			w[j] = api.Wake{Task: -7}
		}
	}
	for i := range l[:cap(l)] {
		l[:cap(l)][i] = ctx.Lapsed{ID: -7}
	}
	for i := range s[:cap(s)] {
		s[:cap(s)][i] = ctx.Start{After: -7, Prog: -7}
	}
}

func TestP15_4NewMemory(t *testing.T) {
	build := func() *plain {
		p := none(t)
		for i := range 6 {
			p.cancels(t, i/2)
			p.after(t, i/2, i)
			p.waits(t, i+1, i, 0)
			p.waits(t, i+1, 9, 1)
		}
		return p
	}
	p, other := build(), build()
	a, b, _ := p.s.Cancel(3, 2)
	spoilt(a, b)
	l, starts, _ := p.s.Cancel(1, 2)
	p.falls(3, api.Canceled, 2)
	wantL, wantS := p.falls(1, api.Canceled, 2)
	ends(t, "Cancel", 1, l, wantL, starts, wantS, api.OK, api.OK)
	spoilt(l, starts)
	p.holds(t, "written over")
	_, more, _ := p.s.After(1, 5)
	spoilt(nil, more)
	p.afters = append(p.afters, after{prog: 5, started: true})
	p.unafter(t, len(p.afters)-1)
	id, l, _ := p.s.Cancels(1)
	spoilt(l, nil)
	if err, _ := p.s.Err(id); err != api.Canceled {
		t.Errorf("Err(%d): %d", id, err)
	}
	// Beside each other no two lists share anything.
	l, starts, _ = other.s.Cancel(1, 4)
	for i := range l {
		kept := slices.Clone(l)
		for j := range kept {
			kept[j].Wakes = slices.Clone(l[j].Wakes)
		}
		_ = append(l[i].Wakes, api.Wake{Task: -7}, api.Wake{Task: -8})
		if !sameLapsed(l, kept) {
			t.Errorf("behind the wakes of %d another's are turned", l[i].ID)
		}
	}
	_ = append(starts, ctx.Start{After: -7})
	_ = append(l, ctx.Lapsed{ID: -7})
	wantL, _ = other.falls(1, api.Canceled, 4)
	if !sameLapsed(l, wantL) {
		t.Errorf("Cancel: %v, not %v", l, wantL)
	}
	other.holds(t, "the other one")
}

func TestSetsHaveNothingInCommon(t *testing.T) {
	a, b := none(t), none(t)
	a.cancels(t, 0)
	a.after(t, 1, 5)
	b.holds(t, "the other one")
	b.deadline(t, 0, 5, 0)
	b.cancel(t, 1, 3)
	a.holds(t, "the one")
	a.unafter(t, 0)
	b.cancels(t, 0)
	b.after(t, 2, 1)
	a.cancel(t, 1, 4)
	b.unafter(t, 0)
	a.holds(t, "the one")
	b.holds(t, "the other one")
}

// Two sets on one's timers have those in common, and nothing else.
func TestTwoSetsOnOnesTimers(t *testing.T) {
	ts := timer.New()
	a, b := ctx.New(ts), ctx.New(ts)
	a.Deadline(0, 10, 0)
	b.Deadline(0, 20, 0)
	b.Cancel(1, 1)
	if when, ok := ts.Next(); when != 10 || !ok || ts.Len() != 2 {
		t.Errorf("due at %d %v, of %d", when, ok, ts.Len())
	}
	if err, _ := a.Err(1); err != api.Nil {
		t.Errorf("error %d", err)
	}
}

// What only asks, and what is refused, changes nothing that is told later.
func TestAskingChangesNothing(t *testing.T) {
	p := none(t)
	p.deadline(t, 0, 50, 0)
	p.cancels(t, 1)
	p.after(t, 2, 4)
	p.without(t, 2)
	p.cancels(t, 0)
	p.cancel(t, 4, 9)
	for range 3 {
		for _, id := range append(numbers(), 6, 7) {
			p.stands(t, "asked", id)
			if !p.has(id) {
				p.cancels(t, id)
				p.deadline(t, id, 9, 0)
				p.without(t, id)
				p.cancel(t, id, 1)
				p.lapse(t, id)
				p.after(t, id, 1)
				p.unafter(t, id)
			}
		}
		p.lapse(t, 2)
		p.lapse(t, 4)
		p.cancel(t, 0, 1)
		p.cancel(t, 3, 1)
		p.after(t, 2, -1)
		p.holds(t, "asked")
	}
	p.after(t, 1, 2)
	p.cancels(t, 2)
	p.holds(t, "made after")
	p.cancel(t, 1, 6)
	p.holds(t, "cancelled after")
}
