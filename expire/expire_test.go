package expire_test

import (
	"math"
	"math/big"
	"math/rand"
	"slices"
	"testing"

	"tarpaulin/api"
	"tarpaulin/expire"
)

const top = api.MaxTime

// edges are the numbers at which a time, or a period, begins or ends to be one.
func edges() []int {
	return []int{
		math.MinInt, math.MinInt + 1, -top - 1, -top, -1 << 32, math.MinInt32, -2, -1, 0, 1, 2, 7,
		math.MaxInt32, 1 << 32, top / 2, top/2 + 1, top - 2, top - 1, top, top + 1, math.MaxInt - 1, math.MaxInt,
	}
}

// one is one that is armed.
type one struct{ id, when, period, seq int }

// ahead tells whether a is taken ahead of b.
func ahead(a, b one) bool {
	return a.when < b.when || a.when == b.when && a.seq < b.seq
}

// plain is timers and beside them the same in a plain list.
type plain struct {
	ts    *expire.Timers
	armed []one
	seq   int
}

// none is new timers.
func none(t *testing.T) *plain {
	t.Helper()
	ts := expire.New()
	if ts == nil {
		t.Fatal("New: none")
	}
	return &plain{ts: ts}
}

// at is timers of 0, 1, .. each at its when, without periods.
func at(t *testing.T, whens ...int) *plain {
	t.Helper()
	p := none(t)
	for id, when := range whens {
		p.arm(t, id, when, 0)
	}
	return p
}

// find is one's place in the plain list, or -1.
func (p *plain) find(id int) int {
	return slices.IndexFunc(p.armed, func(o one) bool { return o.id == id })
}

// cut takes one out of the plain list.
func (p *plain) cut(id int) bool {
	i := p.find(id)
	if i >= 0 {
		p.armed = slices.Delete(p.armed, i, i+1)
	}
	return i >= 0
}

// put puts one into the plain list, anew.
func (p *plain) put(id, when, period int) {
	p.cut(id)
	p.seq++
	p.armed = append(p.armed, one{id, when, period, p.seq})
}

// arm arms one, in both.
func (p *plain) arm(t *testing.T, id, when, period int) {
	t.Helper()
	want := api.OK
	if when < 0 || when > top || period < 0 || period > top {
		want = api.ErrArg
	} else {
		p.put(id, when, period)
	}
	if e := p.ts.Arm(id, when, period); e != want {
		t.Fatalf("Arm(%d, %d, %d) of %v: %d, not %d", id, when, period, p.armed, e, want)
	}
}

// stop stops one, in both.
func (p *plain) stop(t *testing.T, id int) {
	t.Helper()
	want := p.cut(id)
	if got := p.ts.Stop(id); got != want {
		t.Fatalf("Stop(%d): %v, not %v", id, got, want)
	}
}

// first is who is ahead of all in the plain list.
func (p *plain) first() (one, bool) {
	if len(p.armed) == 0 {
		return one{}, false
	}
	first := p.armed[0]
	for _, o := range p.armed {
		if ahead(o, first) {
			first = o
		}
	}
	return first, true
}

// later is when one of a period is due after now, by as many digits as it needs, held; false, if that is not after now.
func later(when, period, now int) (int, bool) {
	w, p, n := big.NewInt(int64(when)), big.NewInt(int64(period)), big.NewInt(int64(now))
	times := new(big.Int).Sub(n, w)
	times.Div(times, p).Add(times, big.NewInt(1))
	next := times.Mul(times, p).Add(times, w)
	if most := big.NewInt(top); next.Cmp(most) > 0 {
		next = most
	}
	return int(next.Int64()), next.Cmp(n) > 0
}

// take takes one, of both; whether there was one.
func (p *plain) take(t *testing.T, now int) bool {
	t.Helper()
	first, is := p.first()
	is = is && first.when <= now
	var want expire.Due
	if is {
		want = expire.Due{ID: first.id, When: first.when, At: now}
		p.cut(first.id)
		if first.period > 0 {
			if when, after := later(first.when, first.period, now); after {
				p.put(first.id, when, first.period)
			}
		}
	}
	if d, ok := p.ts.Take(now); d != want || ok != is {
		t.Fatalf("Take(%d): %v %v, not %v %v; left are %v", now, d, ok, want, is, p.armed)
	}
	return is
}

// holds tells where timers are not what the plain list is.
func (p *plain) holds(t *testing.T, what string) {
	t.Helper()
	if got := p.ts.Len(); got != len(p.armed) {
		t.Errorf("%s: Len %d, not %d", what, got, len(p.armed))
	}
	first, is := p.first()
	if when, ok := p.ts.Next(); when != first.when || ok != is {
		t.Errorf("%s: Next %d %v, not %d %v", what, when, ok, first.when, is)
	}
	for _, o := range p.armed {
		if when, period, ok := p.ts.Armed(o.id); when != o.when || period != o.period || !ok {
			t.Errorf("%s: Armed(%d): %d %d %v, not %v", what, o.id, when, period, ok, o)
		}
	}
	if t.Failed() {
		t.Fatalf("%s: not %v", what, p.armed)
	}
}

// not tells where one is armed that should not be.
func (p *plain) not(t *testing.T, what string, ids ...int) {
	t.Helper()
	for _, id := range ids {
		if when, period, ok := p.ts.Armed(id); when != 0 || period != 0 || ok {
			t.Fatalf("%s: Armed(%d): %d %d %v", what, id, when, period, ok)
		}
	}
}

// runs takes all that are due at a now, and then tells what is left.
func (p *plain) runs(t *testing.T, what string, now int) {
	t.Helper()
	for p.take(t, now) {
		p.holds(t, what)
	}
	p.holds(t, what)
}

func TestP12_1TheExample(t *testing.T) {
	ts := expire.New()
	if e := ts.Arm(3, 10, 5); e != api.OK {
		t.Fatalf("Arm(3, 10, 5): %d", e)
	}
	if d, ok := ts.Take(22); d != (expire.Due{ID: 3, When: 10, At: 22}) || !ok {
		t.Errorf("Take(22): %v %v", d, ok)
	}
	if when, ok := ts.Next(); when != 25 || !ok {
		t.Errorf("Next: %d %v", when, ok)
	}
	if when, period, ok := ts.Armed(3); when != 25 || period != 5 || !ok {
		t.Errorf("Armed(3): %d %d %v", when, period, ok)
	}
}

func TestP12_1NewIsNone(t *testing.T) {
	p := none(t)
	p.holds(t, "new")
	p.not(t, "new", edges()...)
	for _, n := range edges() {
		p.take(t, n)
		p.stop(t, n)
	}
	p.holds(t, "new still")
	p.not(t, "new still", edges()...)
}

// Each time with each period: it is armed so, or refused.
func TestP12_1ArmAtEachEdge(t *testing.T) {
	for _, when := range edges() {
		for _, period := range edges() {
			p := none(t)
			p.arm(t, 4, when, period)
			p.holds(t, "the one")
			p.not(t, "others", 3, 5)
			if len(p.armed) == 0 {
				p.not(t, "refused", 4)
			}
			for _, now := range edges() {
				one := none(t)
				one.arm(t, 4, when, period)
				one.runs(t, "taken", now)
				one.runs(t, "taken at the end", top)
				one.not(t, "taken at the end", 4)
			}
		}
	}
}

func TestP12_1ArmRefuses(t *testing.T) {
	for _, c := range []struct{ when, period int }{
		{-1, 0},
		{-1, 5},
		{math.MinInt, 5},
		{top + 1, 0},
		{top + 1, 5},
		{math.MaxInt, 0},
		{5, -1},
		{0, math.MinInt},
		{5, top + 1},
		{top, math.MaxInt},
		{-1, -1},
		{top + 1, top + 1},
	} {
		ts := expire.New()
		if e := ts.Arm(1, c.when, c.period); e != api.ErrArg || ts.Len() != 0 {
			t.Errorf("Arm(1, %d, %d): %d, %d armed", c.when, c.period, e, ts.Len())
		}
		// One that is armed stays as it was, its place too.
		p := at(t, 5, 5)
		p.arm(t, 2, 5, 3)
		p.arm(t, 0, c.when, c.period)
		p.arm(t, 2, c.when, c.period)
		p.arm(t, 3, c.when, c.period)
		p.holds(t, "refused")
		p.not(t, "refused", 3)
		p.runs(t, "refused, taken", 9)
	}
}

func TestP12_1EachID(t *testing.T) {
	p := none(t)
	for i, id := range edges() {
		p.arm(t, id, 100-i, i%3)
		p.holds(t, "each ID")
	}
	for now := range 110 {
		p.runs(t, "each ID", now)
	}
	for i, id := range edges() {
		p.stop(t, id)
		p.stop(t, id)
		p.holds(t, "each ID stopped")
		p.not(t, "stopped", edges()[:i+1]...)
	}
}

func TestP12_1TakenByTimeThenByArming(t *testing.T) {
	p := at(t, 7, 3, 7, 3, 5, 0)
	for i, id := range []int{5, 1, 3, 4, 0, 2} {
		want := expire.Due{ID: id, When: []int{0, 3, 3, 5, 7, 7}[i], At: 10 + i}
		if d, ok := p.ts.Take(10 + i); d != want || !ok {
			t.Errorf("Take(%d): %v %v, not %v", 10+i, d, ok, want)
		}
	}
	if d, ok := p.ts.Take(16); d != (expire.Due{}) || ok {
		t.Errorf("Take(16), all taken: %v %v", d, ok)
	}
}

// Who is due later than now is not taken, not even by one.
func TestP12_1NotAheadOfItsTime(t *testing.T) {
	for _, when := range edges() {
		for _, now := range edges() {
			p := at(t, when)
			p.take(t, now)
			p.holds(t, "taken once")
			p.take(t, now)
			p.holds(t, "taken twice")
		}
	}
	for when := range 12 {
		for now := -3; now < 15; now++ {
			p := at(t, when, when+1, when+2)
			p.runs(t, "three", now)
		}
	}
}

// Nothing is due below 0, at whatever time and with whatever period one is armed.
func TestP12_1TakeBelow0(t *testing.T) {
	for _, period := range []int{0, 1, 5, top} {
		p := none(t)
		p.arm(t, 0, 0, period)
		p.arm(t, 1, 1, period)
		for _, now := range edges() {
			if now < 0 && p.take(t, now) {
				t.Errorf("taken at %d", now)
			}
			p.holds(t, "below 0")
		}
		p.runs(t, "at 0", 0)
	}
}

// A now above MaxTime is told as it is; there is nothing after it.
func TestP12_1TakeAboveMaxTime(t *testing.T) {
	for _, now := range []int{top + 1, top + 2, math.MaxInt - 1, math.MaxInt} {
		for _, period := range []int{0, 1, 5, top - 1, top} {
			ts := expire.New()
			ts.Arm(1, top, period)
			ts.Arm(2, 0, period)
			for _, want := range []expire.Due{{ID: 2, When: 0, At: now}, {ID: 1, When: top, At: now}} {
				if d, ok := ts.Take(now); d != want || !ok {
					t.Errorf("Take(%d): %v %v, not %v", now, d, ok, want)
				}
			}
			if d, ok := ts.Take(now); d != (expire.Due{}) || ok || ts.Len() != 0 {
				t.Errorf("Take(%d) again: %v %v, %d left", now, d, ok, ts.Len())
			}
		}
	}
}

// A now that is further back than the one before is as any other.
func TestP12_1NowGoesBack(t *testing.T) {
	p := at(t, 3, 9)
	p.arm(t, 2, 1, 4)
	for _, now := range []int{4, 2, 9, 0, 8, 5, 30, 12, 33, 32, 11, 33} {
		p.runs(t, "back", now)
	}
}

func TestP12_1WithoutAPeriodOnce(t *testing.T) {
	p := at(t, 5)
	p.take(t, 5)
	p.not(t, "taken", 0)
	p.holds(t, "taken")
	p.stop(t, 0)
	for _, now := range edges() {
		p.take(t, now)
	}
	p.arm(t, 0, 5, 0)
	p.holds(t, "armed again")
	p.runs(t, "armed again", 6)
	p.not(t, "taken again", 0)
}

func TestP12_1PeriodsGoOnFromWhen(t *testing.T) {
	for _, c := range []struct{ when, period, now, next int }{
		{10, 5, 22, 25},
		{10, 5, 10, 15},
		{10, 5, 14, 15},
		{10, 5, 15, 20},
		{0, 1, 0, 1},
		{0, 1, 7, 8},
		{0, 3, 2, 3},
		{0, 3, 3, 6},
		{7, 100, 8, 107},
		{0, top, 0, top},
		{1, top, 1, top},
		{5, top, top - 1, top},
		{0, 1, top - 1, top},
		{1, 2, top - 2, top - 1},
		{1, 2, top - 1, top},
		{top - 1, 5, top - 1, top},
	} {
		ts := expire.New()
		ts.Arm(1, c.when, c.period)
		if d, ok := ts.Take(c.now); d != (expire.Due{ID: 1, When: c.when, At: c.now}) || !ok {
			t.Errorf("%v: Take: %v %v", c, d, ok)
		}
		if when, period, ok := ts.Armed(1); when != c.next || period != c.period || !ok {
			t.Errorf("%v: Armed: %d %d %v", c, when, period, ok)
		}
		if d, ok := ts.Take(c.now); d != (expire.Due{}) || ok {
			t.Errorf("%v: Take again: %v %v", c, d, ok)
		}
	}
}

// What lies beyond MaxTime is held at it: at MaxTime that is not after now, and it is armed no more.
func TestP12_1NoMoreAtMaxTime(t *testing.T) {
	for _, when := range []int{0, 1, 5, top / 2, top - 1, top} {
		for _, period := range []int{1, 2, 5, top / 2, top - 1, top} {
			p := none(t)
			p.arm(t, 1, when, period)
			if !p.take(t, top) || p.ts.Len() != 0 {
				t.Errorf("%d with %d, at MaxTime: %d left", when, period, p.ts.Len())
			}
			p.holds(t, "no more")
			p.not(t, "no more", 1)
			p.stop(t, 1)
			// Nothing of its period is left.
			p.arm(t, 1, 3, 0)
			p.holds(t, "armed again")
			p.runs(t, "armed again", 7)
			p.not(t, "armed again", 1)
		}
	}
}

func TestP12_1PeriodsOneByOne(t *testing.T) {
	for when := range 8 {
		for period := 1; period < 8; period++ {
			for step := 1; step < 12; step++ {
				p := none(t)
				p.arm(t, 1, when, period)
				for now := 0; now < 40; now += step {
					p.runs(t, "one by one", now)
				}
			}
		}
	}
}

// Who is taken with a period stands behind those that were armed for its next time ahead of that, and ahead of those
// that are after it.
func TestP12_1PeriodsTakeANewPlace(t *testing.T) {
	p := none(t)
	p.arm(t, 1, 5, 5)
	p.arm(t, 2, 10, 0)
	p.runs(t, "at 5", 5)
	p.arm(t, 3, 10, 0)
	p.holds(t, "at 10")
	var ids []int
	for range 3 {
		d, _ := p.ts.Take(10)
		ids = append(ids, d.ID)
	}
	if want := []int{2, 1, 3}; !slices.Equal(ids, want) {
		t.Errorf("taken: %v, not %v", ids, want)
	}
}

func TestP12_1ArmedAnew(t *testing.T) {
	for n := 1; n < 12; n++ {
		for id := range n {
			for _, when := range []int{4, 5, 6} {
				p := at(t, slices.Repeat([]int{5}, n)...)
				p.arm(t, id, when, 0)
				p.holds(t, "anew")
				if got := p.ts.Len(); got != n {
					t.Errorf("%d of %d, anew: %d armed", id, n, got)
				}
				p.runs(t, "anew, at 4", 4)
				p.runs(t, "anew, at 5", 5)
				p.runs(t, "anew, at 6", 6)
			}
		}
	}
	// At its own time it stands behind the others of that time.
	p := at(t, 5, 5, 5)
	p.arm(t, 0, 5, 0)
	var ids []int
	for range 3 {
		d, _ := p.ts.Take(5)
		ids = append(ids, d.ID)
	}
	if want := []int{1, 2, 0}; !slices.Equal(ids, want) {
		t.Errorf("taken: %v, not %v", ids, want)
	}
}

// The period is that of the latest arming, whether armed anew or stopped between.
func TestP12_1ThePeriodOfTheLatestArming(t *testing.T) {
	periods := []int{0, 1, 2, 5, top}
	for _, was := range periods {
		for _, is := range periods {
			for _, stopped := range []bool{false, true} {
				p := at(t, 4)
				p.arm(t, 1, 3, was)
				if stopped {
					p.stop(t, 1)
					p.not(t, "stopped", 1)
				}
				p.arm(t, 1, 6, is)
				p.holds(t, "armed anew")
				for now := range 20 {
					p.runs(t, "armed anew", now)
				}
			}
		}
	}
}

func TestP12_1Stop(t *testing.T) {
	for n := 1; n < 20; n++ {
		for id := range n {
			p := none(t)
			for i := range n {
				p.arm(t, i, i*7%n, i%3)
			}
			p.stop(t, id)
			p.holds(t, "stopped")
			p.not(t, "stopped", id)
			p.stop(t, id)
			p.stop(t, n)
			p.stop(t, -1)
			p.holds(t, "stopped again")
			for now := range n + 3 {
				p.runs(t, "stopped", now)
				p.not(t, "stopped", id)
			}
		}
	}
}

func TestP12_1StopTheTaken(t *testing.T) {
	p := none(t)
	p.arm(t, 1, 5, 0)
	p.arm(t, 2, 5, 2)
	p.runs(t, "taken", 6)
	if p.ts.Stop(1) {
		t.Error("Stop(1): true, but it was taken")
	}
	if !p.ts.Stop(2) {
		t.Error("Stop(2): false, but it was armed anew")
	}
	if p.ts.Len() != 0 {
		t.Errorf("%d left", p.ts.Len())
	}
}

func TestP12_1NextIsTheLeast(t *testing.T) {
	p := none(t)
	for _, when := range []int{9, 9, 5, 7, 5, top, 1, 0, 3} {
		p.arm(t, len(p.armed), when, 0)
		p.holds(t, "armed")
	}
	for _, id := range []int{7, 6, 0, 8, 2, 4, 3, 1} {
		p.stop(t, id)
		p.holds(t, "stopped")
	}
	if when, ok := p.ts.Next(); when != top || !ok {
		t.Errorf("Next: %d %v", when, ok)
	}
	p.arm(t, 5, 0, 0)
	if when, ok := p.ts.Next(); when != 0 || !ok {
		t.Errorf("Next at 0: %d %v", when, ok)
	}
	p.stop(t, 5)
	p.holds(t, "all stopped")
}

func TestP12_1NilTimers(t *testing.T) {
	var ts *expire.Timers
	p := &plain{ts: ts}
	for _, n := range edges() {
		for _, m := range []int{-1, 0, 5, top + 1} {
			if e := ts.Arm(n, m, 0); e != api.ErrArg {
				t.Errorf("Arm(%d, %d, 0): %d", n, m, e)
			}
			if e := ts.Arm(1, m, n); e != api.ErrArg {
				t.Errorf("Arm(1, %d, %d): %d", m, n, e)
			}
		}
		p.stop(t, n)
		p.take(t, n)
		p.not(t, "nil", n)
	}
	p.holds(t, "nil")
}

// Timers that New did not make are none, and none of their calls panics.
func TestP12_1TimersOfNoMaking(t *testing.T) {
	for _, n := range edges() {
		p := &plain{ts: &expire.Timers{}}
		p.holds(t, "not made")
		p.take(t, n)
		p.stop(t, n)
		p.not(t, "not made", n)
		p.arm(t, n, -1, 0)
		p.holds(t, "not made, refused")
		p.arm(t, n, 5, 2)
		p.arm(t, n-1, 5, 0)
		p.holds(t, "not made, armed")
		p.runs(t, "not made, taken", 8)
		p.stop(t, n)
		p.holds(t, "not made, stopped")
	}
}

// eachRow is each row of so many numbers, of 0 to most - 1 each.
func eachRow(row []int, left, most int, do func([]int)) {
	do(row)
	for n := range most {
		if left > 0 {
			eachRow(append(slices.Clip(row), n), left-1, most, do)
		}
	}
}

// once tells where one is taken twice at a now, or behind one that it is ahead of, or where one that is due is left.
func (p *plain) once(t *testing.T, now int) {
	t.Helper()
	due := slices.Clone(p.armed)
	due = slices.DeleteFunc(due, func(o one) bool { return o.when > now })
	slices.SortFunc(due, func(a, b one) int {
		if ahead(a, b) {
			return -1
		}
		return 1
	})
	for _, o := range due {
		if d, ok := p.ts.Take(now); d != (expire.Due{ID: o.id, When: o.when, At: now}) || !ok {
			t.Fatalf("Take(%d) of %v: %v %v, not %v", now, p.armed, d, ok, o)
		}
	}
	for range 2 {
		if d, ok := p.ts.Take(now); d != (expire.Due{}) || ok {
			t.Fatalf("Take(%d) of %v, each taken: %v %v", now, p.armed, d, ok)
		}
	}
	if when, ok := p.ts.Next(); ok && when <= now {
		t.Fatalf("Take(%d) of %v, each taken: Next %d", now, p.armed, when)
	}
}

func TestP12_2EachOnceAtOneNow(t *testing.T) {
	eachRow(nil, 6, 4, func(row []int) {
		for _, now := range []int{0, 1, 2, 3, 9} {
			p := none(t)
			for id, n := range row {
				p.arm(t, id, n, (id+n)%3)
			}
			p.once(t, now)
		}
	})
	for _, when := range edges() {
		for _, period := range edges() {
			for _, now := range edges() {
				p := none(t)
				p.arm(t, 0, when, period)
				p.arm(t, 1, top, period)
				p.arm(t, 2, when, 1)
				p.once(t, now)
			}
		}
	}
}

// Each row of so many steps with two IDs.
func TestP12_2EachRowOfSteps(t *testing.T) {
	eachRow(nil, 4, 14, func(row []int) {
		p := none(t)
		for _, step := range row {
			id := step % 2
			switch step / 2 {
			case 0:
				p.arm(t, id, 5, 0)
			case 1:
				p.arm(t, id, 4, 2)
			case 2:
				p.arm(t, id, 6, -1)
			case 3:
				p.arm(t, id, 6, 1)
			case 4:
				p.stop(t, id)
			case 5:
				p.take(t, 4+id)
			default:
				p.runs(t, "each row of steps", 6+id)
			}
		}
		p.holds(t, "each row of steps")
		p.runs(t, "each row of steps, taken", 7)
		p.runs(t, "each row of steps, taken later", 8)
	})
}

// walk does what chance says, while a now goes on.
func walk(t *testing.T, chance *rand.Rand, most, times int) {
	t.Helper()
	p, now, far := none(t), 0, edges()
	for range times {
		id, period := chance.Intn(most)-most/2, max(0, chance.Intn(9)-4)
		switch chance.Intn(8) {
		case 0, 1, 2, 3:
			p.arm(t, id, now+chance.Intn(12)-1, period)
		case 4:
			p.stop(t, id)
			p.not(t, "by chance", id)
		case 5:
			now += chance.Intn(4)
			p.take(t, now)
		case 6:
			now += chance.Intn(6)
			p.runs(t, "by chance", now)
		default:
			p.arm(t, id, far[chance.Intn(len(far))], far[chance.Intn(len(far))])
		}
		p.holds(t, "by chance")
	}
	for range 3 {
		now += 7
		p.runs(t, "by chance, at the end", now)
	}
	p.runs(t, "by chance, at the last", top)
}

func TestP12_2ByChance(t *testing.T) {
	chance := rand.New(rand.NewSource(12))
	for most := 1; most <= 66; most++ {
		walk(t, chance, most, 20*most)
	}
	walk(t, chance, 300, 3000)
}

func TestTimersHaveNothingInCommon(t *testing.T) {
	a, b := at(t, 5, 6), none(t)
	b.holds(t, "the other")
	b.arm(t, 1, 9, 3)
	b.stop(t, 0)
	a.holds(t, "the one")
	a.arm(t, 1, 9, 0)
	b.holds(t, "the other, armed")
	b.runs(t, "the other, taken", 30)
	a.holds(t, "the one still")
	a.runs(t, "the one, taken", 30)
	b.holds(t, "the other still")
}

// What only asks, or is refused, changes nothing that is told later.
func TestAskingChangesNothing(t *testing.T) {
	for n := range 12 {
		p := none(t)
		for i := range n {
			p.arm(t, i, 3+i*5%7, i%3)
		}
		for range 3 {
			p.ts.Len()
			p.ts.Next()
			for _, id := range edges() {
				p.ts.Armed(id)
			}
			p.ts.Armed(n - 1)
			p.take(t, 2)
			p.stop(t, n)
			p.arm(t, n-1, -1, 0)
			p.arm(t, n-1, 0, top+1)
		}
		p.holds(t, "asked")
		for now := range 15 {
			p.runs(t, "asked, taken", now)
		}
	}
}
