package clock_test

import (
	"math"
	"math/big"
	"testing"

	"tarpaulin/api"
	"tarpaulin/clock"
)

const top = api.MaxTime

// edges are the numbers at which a sum, a sign or a limit could go wrong.
func edges() []int {
	return []int{
		math.MinInt, math.MinInt + 1, -top - 1, -top, -top + 1, -top / 2,
		-7, -1, 0, 1, 2, 7,
		top / 2, top - 1, top, top + 1, math.MaxInt - 1, math.MaxInt,
	}
}

// held is x of as many digits as it needs, held.
func held(x *big.Int) int {
	if most := big.NewInt(top); x.Cmp(most) > 0 {
		return top
	}
	if least := big.NewInt(-top); x.Cmp(least) < 0 {
		return -top
	}
	return int(x.Int64())
}

// counted is x as an argument counts.
func counted(x int) *big.Int { return big.NewInt(int64(held(big.NewInt(int64(x))))) }

func TestP1_1SumsOfOrdinaryTimes(t *testing.T) {
	for _, c := range []struct{ a, b, sum, less int }{
		{5, 7, 12, -2},
		{7, 5, 12, 2},
		{5, -7, -2, 12},
		{-5, -7, -12, 2},
		{0, 0, 0, 0},
		{1_000_000_000, 1, 1_000_000_001, 999_999_999},
	} {
		if got := clock.Add(c.a, c.b); got != c.sum {
			t.Errorf("Add(%d, %d): %d, not %d", c.a, c.b, got, c.sum)
		}
		if got := clock.Sub(c.a, c.b); got != c.less {
			t.Errorf("Sub(%d, %d): %d, not %d", c.a, c.b, got, c.less)
		}
	}
}

func TestP1_1SumsAreHeld(t *testing.T) {
	for _, c := range []struct{ a, b, sum, less int }{
		{top, 1, top, top - 1},
		{top, -1, top - 1, top},
		{-top, -1, -top, -top + 1},
		{-top, 1, -top + 1, -top},
		{top - 3, 3, top, top - 6},
		{top - 3, 4, top, top - 7},
		{3 - top, -3, -top, 6 - top},
		{3 - top, -4, -top, 7 - top},
		{top, top, top, 0},
		{top, -top, 0, top},
		{-top, -top, -top, 0},
		{-top, top, 0, -top},
		{1, math.MaxInt, top, 1 - top},
		{math.MaxInt, -1, top - 1, top},
		{math.MaxInt, math.MinInt, 0, top},
		{math.MinInt, math.MaxInt, 0, -top},
		{math.MinInt, math.MinInt, -top, 0},
		{0, math.MinInt, -top, top},
		{0, top + 1, top, -top},
	} {
		if got := clock.Add(c.a, c.b); got != c.sum {
			t.Errorf("Add(%d, %d): %d, not %d", c.a, c.b, got, c.sum)
		}
		if got := clock.Sub(c.a, c.b); got != c.less {
			t.Errorf("Sub(%d, %d): %d, not %d", c.a, c.b, got, c.less)
		}
	}
}

func TestP1_1SumsAgainstLongNumbers(t *testing.T) {
	for _, a := range edges() {
		for _, b := range edges() {
			sum := held(new(big.Int).Add(counted(a), counted(b)))
			if got := clock.Add(a, b); got != sum {
				t.Errorf("Add(%d, %d): %d, not %d", a, b, got, sum)
			}
			less := held(new(big.Int).Sub(counted(a), counted(b)))
			if got := clock.Sub(a, b); got != less {
				t.Errorf("Sub(%d, %d): %d, not %d", a, b, got, less)
			}
		}
	}
}

func TestP1_1LeastIsAsItIs(t *testing.T) {
	for _, c := range []struct{ a, b, want int }{
		{5, 7, 5},
		{7, 5, 5},
		{5, 5, 5},
		{-5, 5, -5},
		{math.MinInt, 0, math.MinInt},
		{0, math.MinInt, math.MinInt},
		{math.MaxInt, math.MaxInt, math.MaxInt},
		{math.MaxInt, top + 1, top + 1},
	} {
		if got := clock.Least(c.a, c.b); got != c.want {
			t.Errorf("Least(%d, %d): %d, not %d", c.a, c.b, got, c.want)
		}
	}
}

func TestP1_2NextOfARow(t *testing.T) {
	for _, c := range []struct{ when, period, now, want int }{
		{10, 5, 22, 25},
		{10, 5, 0, 10},
		{10, 5, 9, 10},
		{10, 5, 10, 15},
		{10, 5, 14, 15},
		{10, 5, 15, 20},
		{0, 1, 0, 1},
		{0, 3, 2, 3},
		{0, 3, 3, 6},
		{3, top, 2, 3},
		{0, 1, top - 1, top},
		{1, 2, top - 2, top - 1},
		{0, top, 0, top},
	} {
		got, e := clock.Next(c.when, c.period, c.now)
		if got != c.want || e != api.OK {
			t.Errorf("Next(%d, %d, %d): %d %d, not %d", c.when, c.period, c.now, got, e, c.want)
		}
	}
}

func TestP1_2NextIsHeld(t *testing.T) {
	for _, c := range []struct{ when, period, now int }{
		{top, 1, top},
		{top, top, top},
		{0, 1, top},
		{0, top, top},
		{0, top, 5},
		{5, top, 5},
		{1, top, 1},
		{1, top, top},
		{top - 1, top, top},
		{0, 3, top - 1},
		{1, 2, top - 1},
	} {
		got, e := clock.Next(c.when, c.period, c.now)
		if got != top || e != api.OK {
			t.Errorf("Next(%d, %d, %d): %d %d, not %d", c.when, c.period, c.now, got, e, top)
		}
	}
}

func TestP1_2NextRefuses(t *testing.T) {
	for _, c := range []struct{ when, period, now int }{
		{10, 0, 5},
		{10, -1, 5},
		{10, math.MinInt, 5},
		{-1, 5, 5},
		{math.MinInt, 5, 5},
		{10, 5, -1},
		{10, 5, math.MinInt},
		{top + 1, 1, 0},
		{math.MaxInt, 1, 0},
		{0, top + 1, 0},
		{0, math.MaxInt, 0},
		{0, 1, top + 1},
		{0, 1, math.MaxInt},
	} {
		got, e := clock.Next(c.when, c.period, c.now)
		if got != 0 || e != api.ErrArg {
			t.Errorf("Next(%d, %d, %d): %d %d, not refused", c.when, c.period, c.now, got, e)
		}
	}
}

func TestP1_2NextAgainstOneByOne(t *testing.T) {
	for when := range 12 {
		for period := 1; period < 8; period++ {
			for now := range 40 {
				want := when
				for want <= now {
					want += period
				}
				got, e := clock.Next(when, period, now)
				if got != want || e != api.OK {
					t.Errorf("Next(%d, %d, %d): %d %d, not %d", when, period, now, got, e, want)
				}
			}
		}
	}
}

func TestP1_2NextAgainstLongNumbers(t *testing.T) {
	for _, when := range edges() {
		for _, period := range edges() {
			for _, now := range edges() {
				want, refused := longNext(when, period, now)
				got, e := clock.Next(when, period, now)
				if got != want || e != refused {
					t.Errorf("Next(%d, %d, %d): %d %d, not %d %d", when, period, now, got, e, want, refused)
				}
			}
		}
	}
}

// longNext is Next by as many digits as it needs.
func longNext(when, period, now int) (int, api.Errno) {
	if period < 1 || when < 0 || now < 0 || max(when, period, now) > top {
		return 0, api.ErrArg
	}
	w, p, n := big.NewInt(int64(when)), big.NewInt(int64(period)), big.NewInt(int64(now))
	if w.Cmp(n) > 0 {
		return when, api.OK
	}
	times := new(big.Int).Sub(n, w)
	times.Div(times, p).Add(times, big.NewInt(1))
	return held(times.Mul(times, p).Add(times, w)), api.OK
}

func TestP1_2ClockGoesOn(t *testing.T) {
	c := clock.New()
	if got := c.Now(); got != 0 {
		t.Fatalf("a new one is at %d", got)
	}
	for _, s := range []struct {
		d    int
		e    api.Errno
		then int
	}{
		{5, api.OK, 5},
		{0, api.OK, 5},
		{-1, api.ErrArg, 5},
		{math.MinInt, api.ErrArg, 5},
		{7, api.OK, 12},
		{top - 13, api.OK, top - 1},
		{1, api.OK, top},
		{1, api.OK, top},
		{top, api.OK, top},
		{math.MaxInt, api.OK, top},
		{-1, api.ErrArg, top},
	} {
		if e := c.Advance(s.d); e != s.e {
			t.Errorf("Advance(%d): %d, not %d", s.d, e, s.e)
		}
		if got := c.Now(); got != s.then {
			t.Errorf("after Advance(%d): %d, not %d", s.d, got, s.then)
		}
	}
}

func TestP1_2ClockGoesOnBeyondAllAtOnce(t *testing.T) {
	for _, d := range []int{top, top + 1, math.MaxInt} {
		c := clock.New()
		if e := c.Advance(d); e != api.OK || c.Now() != top {
			t.Errorf("Advance(%d): %d, at %d", d, e, c.Now())
		}
	}
}

func TestP1_2ClocksHaveNothingInCommon(t *testing.T) {
	a, b := clock.New(), clock.New()
	a.Advance(5)
	if a.Now() != 5 || b.Now() != 0 {
		t.Errorf("at %d and %d, not 5 and 0", a.Now(), b.Now())
	}
}

func TestP1_2NilClock(t *testing.T) {
	var none *clock.Clock
	for _, d := range []int{1, 0, -1} {
		if e := none.Advance(d); e != api.ErrArg {
			t.Errorf("Advance(%d) of a nil one: %d", d, e)
		}
	}
	if got := none.Now(); got != 0 {
		t.Errorf("a nil one is at %d", got)
	}
}

func TestP1_3NowNeverGoesBack(t *testing.T) {
	for _, first := range edges() {
		c := clock.New()
		c.Advance(first)
		for _, d := range edges() {
			was := c.Now()
			e := c.Advance(d)
			now := c.Now()
			if now < was || now > top {
				t.Errorf("first %d: Advance(%d) went from %d to %d", first, d, was, now)
			}
			if e != api.OK && now != was {
				t.Errorf("first %d: Advance(%d) refused, but went from %d to %d", first, d, was, now)
			}
		}
	}
}
