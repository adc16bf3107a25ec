package arena_test

import (
	"errors"
	"math"
	"math/rand"
	"slices"
	"testing"

	"tarpaulin/api"
	"tarpaulin/arena"
)

// made is an arena of a most that may be.
func made[T any](t *testing.T, most int) *arena.Arena[T] {
	t.Helper()
	a, e := arena.New[T](most)
	if a == nil || e != api.OK {
		t.Fatalf("New(%d): %v %d", most, a, e)
	}
	return a
}

// of is an arena of a most, with those things.
func of[T any](t *testing.T, most int, l ...T) *arena.Arena[T] {
	t.Helper()
	a := made[T](t, most)
	for i, x := range l {
		added(t, a, x, i)
	}
	goesOn(t)
	return a
}

// goesOn ends a test that has failed: a long loop would tell the same over and over.
func goesOn(t *testing.T) {
	t.Helper()
	if t.Failed() {
		t.FailNow()
	}
}

// added tells where a thing is not added under that number.
func added[T any](t *testing.T, a *arena.Arena[T], x T, want int) {
	t.Helper()
	if h, e := a.Add(x); h != want || e != api.OK {
		t.Errorf("Add(%v): %d %d, not %d", x, h, e, want)
	}
}

// full tells where one more is not refused.
func full[T any](t *testing.T, a *arena.Arena[T], x T) {
	t.Helper()
	if h, e := a.Add(x); h != 0 || e != api.ErrFull {
		t.Errorf("Add(%v) to a full one: %d %d", x, h, e)
	}
}

// set tells where a change of one is not answered so.
func set[T any](t *testing.T, a *arena.Arena[T], h int, x T, want bool) {
	t.Helper()
	if got := a.Set(h, x); got != want {
		t.Errorf("Set(%d, %v): %v", h, x, got)
	}
}

// has tells where what stands under a number is not so.
func has[T comparable](t *testing.T, a *arena.Arena[T], h int, want T, ok bool) {
	t.Helper()
	if x, is := a.Get(h); x != want || is != ok {
		t.Errorf("Get(%d): %v %v, not %v %v", h, x, is, want, ok)
	}
}

// counts tells where there are not so many, or where there is not room for so many more.
func counts[T any](t *testing.T, what string, a *arena.Arena[T], n, left int) {
	t.Helper()
	if got := a.Len(); got != n {
		t.Errorf("%s: Len %d, not %d", what, got, n)
	}
	if got := a.Left(); got != left {
		t.Errorf("%s: Left %d, not %d", what, got, left)
	}
}

// beyond are numbers that an arena of n things has not.
func beyond(n int) []int {
	return []int{
		n, n + 1, 999, 1000, 1001, 1 << 16, 1 << 32, 1<<32 + 1, api.MaxTime, math.MaxInt - 1, math.MaxInt,
		-1, -2, -n, -n - 1, -1000, -1 << 32, -1<<32 + 1, math.MinInt32, math.MinInt + 1, math.MinInt,
	}
}

// gone tells where something is there under a number of none, or can be set there.
func gone[T comparable](t *testing.T, a *arena.Arena[T], n int, x T) {
	t.Helper()
	var zero T
	for _, h := range beyond(n) {
		if h >= 0 && h < n {
			continue
		}
		has(t, a, h, zero, false)
		set(t, a, h, x, false)
		has(t, a, h, zero, false)
	}
}

// holds tells where an arena has not those things, under the numbers from 0 on.
func holds[T comparable](t *testing.T, what string, a *arena.Arena[T], most int, want []T) {
	t.Helper()
	counts(t, what, a, len(want), most-len(want))
	var zero T
	for h, x := range want {
		has(t, a, h, x, true)
	}
	has(t, a, len(want), zero, false)
	has(t, a, -1, zero, false)
	if t.Failed() {
		t.Fatalf("%s: not %v", what, want)
	}
}

// row is n numbers, from v on.
func row(v, n int) []int {
	var l []int
	for i := range n {
		l = append(l, v+i)
	}
	return l
}

func TestP7_1NewOfEachMost(t *testing.T) {
	for most := 1; most <= 1000; most++ {
		holds(t, "new", made[int](t, most), most, nil)
		holds(t, "new", made[string](t, most), most, nil)
	}
}

// refused tells where a most is not refused.
func refused[T any](t *testing.T, most int) {
	t.Helper()
	if a, e := arena.New[T](most); a != nil || e != api.ErrArg {
		t.Errorf("New(%d): %v %d", most, a, e)
	}
}

func TestP7_1NewRefuses(t *testing.T) {
	for _, most := range []int{
		math.MinInt, math.MinInt + 1, math.MinInt + 1000, math.MinInt32, -1<<32 + 1, -1001, -1000, -64, -2, -1, 0,
		1001, 1002, 1024, 2000, 1 << 16, 1 << 32, 1<<32 + 1, api.MaxTime, math.MaxInt - 1, math.MaxInt,
	} {
		refused[int](t, most)
		refused[string](t, most)
		refused[struct{}](t, most)
		refused[*int](t, most)
	}
}

func TestP7_1TheExample(t *testing.T) {
	a := made[string](t, 1)
	added(t, a, "one", 0)
	full(t, a, "two")
	holds(t, "the example", a, 1, []string{"one"})
}

func TestP7_1AddUnderTheNextNumber(t *testing.T) {
	for _, most := range []int{1, 2, 3, 10, 63, 64, 65, 127} {
		a := made[int](t, most)
		for n := range most {
			holds(t, "on the way", a, most, row(100, n))
			added(t, a, 100+n, n)
		}
		holds(t, "full", a, most, row(100, most))
	}
}

func TestP7_1FullAtEachMost(t *testing.T) {
	for most := 1; most <= 1000; most++ {
		a := made[int](t, most)
		for n := range most {
			added(t, a, 100+n, n)
			counts(t, "on the way", a, n+1, most-n-1)
		}
		for range 2 {
			full(t, a, 7)
			counts(t, "full", a, most, 0)
		}
		has(t, a, 0, 100, true)
		has(t, a, most-1, 99+most, true)
		has(t, a, most, 0, false)
		goesOn(t)
	}
}

func TestP7_1FullChangesNothing(t *testing.T) {
	for _, most := range []int{1, 2, 64, 999, 1000} {
		a := of(t, most, row(100, most)...)
		for range 3 {
			full(t, a, -1)
			holds(t, "full", a, most, row(100, most))
			gone(t, a, most, -1)
		}
		// That something is set makes no room.
		set(t, a, most-1, 7, true)
		full(t, a, -1)
		holds(t, "set", a, most, append(row(100, most-1), 7))
	}
}

func TestP7_1NotThere(t *testing.T) {
	for _, most := range []int{1, 2, 3, 64, 1000} {
		for _, n := range []int{0, 1, 2, most / 2, most - 1, most} {
			if n > most {
				continue
			}
			a := of(t, most, row(100, n)...)
			gone(t, a, n, -1)
			holds(t, "not there", a, most, row(100, n))
			// What was not set before a number was given is not there after it.
			if n < most {
				added(t, a, 100+n, n)
				holds(t, "there now", a, most, row(100, n+1))
			}
		}
	}
}

func TestP7_1SetAtEachNumber(t *testing.T) {
	for _, n := range []int{1, 2, 3, 64, 65} {
		for _, most := range []int{n, n + 1, 1000} {
			for h := range n {
				a, want := of(t, most, row(100, n)...), row(100, n)
				for _, x := range []int{-1, 0, 7} {
					set(t, a, h, x, true)
					want[h] = x
					holds(t, "set", a, most, want)
				}
			}
		}
	}
}

func TestP7_1AddBehindWhatWasSet(t *testing.T) {
	a := of(t, 4, "a", "b")
	set(t, a, 0, "A", true)
	set(t, a, 2, "C", false)
	added(t, a, "c", 2)
	set(t, a, 2, "C", true)
	added(t, a, "d", 3)
	set(t, a, 3, "", true)
	full(t, a, "e")
	holds(t, "set and added", a, 4, []string{"A", "b", "C", ""})
}

// Things that are zero, or the same as others, are there like any other.
func TestP7_1ZeroAndSameThings(t *testing.T) {
	zeros := make([]int, 5)
	a := of(t, 5, zeros...)
	holds(t, "zero", a, 5, zeros)
	full(t, a, 0)
	set(t, a, 4, 9, true)
	set(t, a, 4, 0, true)
	holds(t, "zero", a, 5, zeros)
	holds(t, "same", of(t, 6, "x", "x", "", "x"), 6, []string{"x", "x", "", "x"})
}

func TestP7_1AllNumbersAreThings(t *testing.T) {
	numbers := []int{0, -1, 1, math.MinInt, math.MaxInt, 1 << 32, -1 << 32, api.MaxTime + 1, 1000, 1001}
	a := of(t, 100, numbers...)
	holds(t, "numbers", a, 100, numbers)
	for h, x := range slices.Backward(numbers) {
		set(t, a, len(numbers)-1-h, x, true)
	}
	slices.Reverse(numbers)
	holds(t, "numbers set", a, 100, numbers)
}

// keeps tells where an arena of some kind of things does not have them as they were handed in.
func keeps[T comparable](t *testing.T, what string, l ...T) {
	t.Helper()
	a := of(t, len(l), l...)
	holds(t, what, a, len(l), l)
	full(t, a, l[0])
	gone(t, a, len(l), l[0])
	turned := slices.Clone(l)
	slices.Reverse(turned)
	for h, x := range turned {
		set(t, a, h, x, true)
	}
	holds(t, what, a, len(l), turned)
}

func TestP7_1AnyType(t *testing.T) {
	one, two := 1, 1
	keeps(t, "bool", true, false, true)
	keeps(t, "byte", byte(255), byte(0), byte(7))
	keeps(t, "string", "", "\x00\xff", "long text")
	keeps(t, "float", math.Inf(-1), math.Copysign(0, -1), 1.5)
	keeps(t, "complex", 1i, 0, 2+3i)
	keeps(t, "pointer", &one, nil, &two)
	keeps(t, "array", [3]int{1, 2, 3}, [3]int{}, [3]int{3})
	keeps(t, "struct", api.Event{Step: 1, C: 2}, api.Event{}, api.Event{Kind: 7})
	keeps(t, "nothing", struct{}{}, struct{}{})
	keeps(t, "interface", any(1), nil, any("1"), any(int8(1)), any(&one))
	keeps(t, "error", errors.New("x"), nil, errors.New("x"))
	keeps(t, "channel", make(chan int), nil, make(chan int))
	keeps(t, "arena", made[int](t, 1), nil, made[int](t, 1))
}

// What two of cannot be held against each other is kept all the same.
func TestP7_1ThingsThatAreNotCompared(t *testing.T) {
	a := of(t, 3, []int{1}, nil)
	added(t, a, []int{}, 2)
	full(t, a, []int{4})
	for h, want := range [][]int{{1}, nil, {}} {
		if l, ok := a.Get(h); !ok || !slices.Equal(l, want) || (l == nil) != (want == nil) {
			t.Errorf("Get(%d): %v %v, not %v", h, l, ok, want)
		}
	}
	if l, ok := a.Get(3); l != nil || ok {
		t.Errorf("Get(3): %v %v", l, ok)
	}
	f := of(t, 2, func() int { return 5 })
	if do, ok := f.Get(0); !ok || do() != 5 {
		t.Errorf("Get(0) of a function: %v", ok)
	}
	if do, ok := f.Get(1); ok || do != nil {
		t.Errorf("Get(1) of a function: %v", ok)
	}
	nan := of(t, 1, math.NaN())
	if x, ok := nan.Get(0); !ok || !math.IsNaN(x) {
		t.Errorf("Get(0) of no number: %v %v", x, ok)
	}
	m := of(t, 1, map[string]int{"a": 1})
	if x, ok := m.Get(0); !ok || x["a"] != 1 {
		t.Errorf("Get(0) of a map: %v %v", x, ok)
	}
}

// noRoom tells where an arena that takes nothing in is not so.
func noRoom[T comparable](t *testing.T, a *arena.Arena[T], x T) {
	t.Helper()
	for range 2 {
		full(t, a, x)
		gone(t, a, 0, x)
		counts(t, "no room", a, 0, 0)
	}
}

func TestP7_1NilArena(t *testing.T) {
	noRoom[int](t, nil, 7)
	noRoom[string](t, nil, "x")
	noRoom[struct{}](t, nil, struct{}{})
	x := 7
	noRoom(t, (*arena.Arena[*int])(nil), &x)
}

// An Arena that New did not make has no room, and none of its calls panics.
func TestP7_1ArenaOfNoMaking(t *testing.T) {
	var a arena.Arena[int]
	noRoom(t, &a, 7)
}

func TestP7_2EachNumberOnce(t *testing.T) {
	for _, most := range []int{1, 2, 64, 1000} {
		a := made[int](t, most)
		given := map[int]int{}
		for n := range 2 * most {
			if h, e := a.Add(n); e == api.OK {
				given[h]++
			}
			// What is set, or is not there, gives no number back.
			a.Set(n/2, 0)
			a.Set(-1, 0)
			a.Get(n)
		}
		if len(given) != most {
			t.Errorf("of %d: %d numbers", most, len(given))
		}
		for h, times := range given {
			if h < 0 || h >= most || times != 1 {
				t.Errorf("of %d: %d given %d times", most, h, times)
			}
		}
	}
}

// walk does what chance says, to an arena and to a plain list, and holds them against each other.
func walk(t *testing.T, chance *rand.Rand, most, steps int) {
	t.Helper()
	a, list := made[int](t, most), []int(nil)
	for v := range steps {
		h := chance.Intn(most+3) - 1
		there := h >= 0 && h < len(list)
		switch chance.Intn(3) {
		case 0:
			if len(list) == most {
				full(t, a, v)
			} else {
				added(t, a, v, len(list))
				list = append(list, v)
			}
		case 1:
			set(t, a, h, v, there)
			if there {
				list[h] = v
			}
		default:
			want := 0
			if there {
				want = list[h]
			}
			has(t, a, h, want, there)
		}
		holds(t, "by chance", a, most, list)
	}
}

func TestP7_2ByChance(t *testing.T) {
	chance := rand.New(rand.NewSource(7))
	for most := 1; most <= 70; most++ {
		walk(t, chance, most, 12*most)
	}
	walk(t, chance, 1000, 4000)
}

// What came in, and what is told, are not the arena's own.
func TestThingsAreValues(t *testing.T) {
	x := [2]int{1, 2}
	a := of(t, 2, x)
	x[0] = 9
	has(t, a, 0, [2]int{1, 2}, true)
	got, _ := a.Get(0)
	got[1] = 9
	has(t, a, 0, [2]int{1, 2}, true)
	y := [2]int{3, 4}
	set(t, a, 0, y, true)
	y[0] = 9
	holds(t, "values", a, 2, [][2]int{{3, 4}})
}

func TestArenasHaveNothingInCommon(t *testing.T) {
	one, other, words := made[int](t, 3), made[int](t, 2), made[string](t, 3)
	added(t, one, 10, 0)
	added(t, one, 11, 1)
	holds(t, "the other one", other, 2, nil)
	holds(t, "that of words", words, 3, nil)
	added(t, other, 20, 0)
	added(t, words, "w", 0)
	set(t, other, 0, 21, true)
	set(t, other, 1, 22, false)
	holds(t, "the one", one, 3, []int{10, 11})
	added(t, other, 23, 1)
	full(t, other, 24)
	added(t, one, 12, 2)
	full(t, one, 13)
	holds(t, "the one", one, 3, []int{10, 11, 12})
	holds(t, "the other one", other, 2, []int{21, 23})
	holds(t, "that of words", words, 3, []string{"w"})
}

// What only asks changes nothing that is told later.
func TestAskingChangesNothing(t *testing.T) {
	for n := range 5 {
		a := of(t, 5, row(100, n)...)
		for range 3 {
			a.Len()
			a.Left()
			a.Get(0)
			a.Get(n)
			a.Get(-1)
		}
		holds(t, "asked", a, 5, row(100, n))
		added(t, a, 100+n, n)
		holds(t, "added after", a, 5, row(100, n+1))
	}
}
