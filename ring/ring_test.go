package ring_test

import (
	"math"
	"math/rand"
	"slices"
	"testing"

	"tarpaulin/api"
	"tarpaulin/ring"
)

// made is a ring of a size that may be.
func made(t *testing.T, size int) *ring.Ring {
	t.Helper()
	r, e := ring.New(size)
	if r == nil || e != api.OK {
		t.Fatalf("New(%d): %v %d", size, r, e)
	}
	return r
}

// sizes are those that may be.
func sizes() []int {
	var l []int
	for size := range 65 {
		l = append(l, size)
	}
	return l
}

// holds tells where a ring is not of that size, or has not those values.
func holds(t *testing.T, what string, r *ring.Ring, size int, want []int) {
	t.Helper()
	if got := r.Size(); got != size {
		t.Errorf("%s: size %d, not %d", what, got, size)
	}
	if got := r.Len(); got != len(want) {
		t.Errorf("%s: %d values, not %d", what, got, len(want))
	}
	if got := r.All(); !slices.Equal(got, want) {
		t.Errorf("%s: %v, not %v", what, got, want)
	}
}

// pushed tells where a push is not answered so.
func pushed(t *testing.T, r *ring.Ring, v int, want bool) {
	t.Helper()
	if got := r.Push(v); got != want {
		t.Errorf("Push(%d) onto %v of %d: %v", v, r.All(), r.Size(), got)
	}
}

// popped tells where a pop is not answered so.
func popped(t *testing.T, r *ring.Ring, want int, ok bool) {
	t.Helper()
	if got, is := r.Pop(); got != want || is != ok {
		t.Errorf("Pop: %d %v, not %d %v", got, is, want, ok)
	}
}

// filled pushes n values, from v on, that there is room for.
func filled(t *testing.T, r *ring.Ring, v, n int) {
	t.Helper()
	for i := range n {
		pushed(t, r, v+i, true)
	}
}

// row is n numbers, from v on.
func row(v, n int) []int {
	var l []int
	for i := range n {
		l = append(l, v+i)
	}
	return l
}

func TestP5_1NewOfEachSize(t *testing.T) {
	for _, size := range sizes() {
		holds(t, "new", made(t, size), size, nil)
	}
}

func TestP5_1NewRefuses(t *testing.T) {
	for _, size := range []int{
		math.MinInt, math.MinInt + 1, math.MinInt + 64, math.MinInt32, -65, -64, -2, -1,
		65, 66, 128, 256, 1 << 32, 1<<32 + 1, api.MaxTime, math.MaxInt - 1, math.MaxInt,
	} {
		if r, e := ring.New(size); r != nil || e != api.ErrArg {
			t.Errorf("New(%d): %v %d", size, r, e)
		}
	}
}

func TestP5_1TheExample(t *testing.T) {
	r := made(t, 2)
	pushed(t, r, 1, true)
	pushed(t, r, 2, true)
	pushed(t, r, 3, false)
	holds(t, "the example", r, 2, []int{1, 2})
}

func TestP5_1PushOntoAFullOne(t *testing.T) {
	for _, size := range sizes() {
		r := made(t, size)
		for n := range size {
			holds(t, "on the way", r, size, row(100, n))
			pushed(t, r, 100+n, true)
		}
		for range 2 {
			pushed(t, r, 7, false)
			holds(t, "full", r, size, row(100, size))
		}
	}
}

func TestP5_1PopOfNone(t *testing.T) {
	for _, size := range sizes() {
		r := made(t, size)
		for range 2 {
			popped(t, r, 0, false)
			holds(t, "none", r, size, nil)
		}
		filled(t, r, 100, size)
		for i := range size {
			popped(t, r, 100+i, true)
			holds(t, "on the way", r, size, row(101+i, size-i-1))
		}
		for range 2 {
			popped(t, r, 0, false)
			holds(t, "none any more", r, size, nil)
		}
		filled(t, r, 500, size)
		pushed(t, r, 7, false)
		holds(t, "full again", r, size, row(500, size))
	}
}

func TestP5_1SizeNone(t *testing.T) {
	r := made(t, 0)
	pushed(t, r, 1, false)
	popped(t, r, 0, false)
	if n := r.Clear(); n != 0 {
		t.Errorf("Clear: %d", n)
	}
	pushed(t, r, 1, false)
	holds(t, "no room", r, 0, nil)
}

func TestP5_1AllNumbersAreValues(t *testing.T) {
	numbers := []int{0, 0, -1, 1, 1, math.MinInt, math.MaxInt, 1 << 32, -1 << 32, api.MaxTime + 1}
	r := made(t, len(numbers))
	for _, v := range numbers {
		pushed(t, r, v, true)
	}
	holds(t, "numbers", r, len(numbers), numbers)
	for _, v := range numbers {
		popped(t, r, v, true)
	}
	popped(t, r, 0, false)
}

// turned is a ring of that size, whose first place is one of its own, with n values from v on.
func turned(t *testing.T, size, first, v, n int) *ring.Ring {
	t.Helper()
	r := made(t, size)
	for range first {
		pushed(t, r, -9, true)
		popped(t, r, -9, true)
	}
	filled(t, r, v, n)
	return r
}

func TestP5_1FromEachPlaceOn(t *testing.T) {
	for _, size := range []int{1, 2, 3, 5, 63, 64} {
		for first := range size + 1 {
			for n := range size + 1 {
				r := turned(t, size, first, 100, n)
				holds(t, "turned", r, size, row(100, n))
				if n == size {
					pushed(t, r, 7, false)
				}
				for i := range n {
					popped(t, r, 100+i, true)
				}
				popped(t, r, 0, false)
			}
		}
	}
}

func TestP5_1ClearFromEachPlaceOn(t *testing.T) {
	for _, size := range []int{1, 2, 3, 5, 63, 64} {
		for first := range size + 1 {
			for n := range size + 1 {
				r := turned(t, size, first, 100, n)
				if were := r.Clear(); were != n {
					t.Errorf("Clear of %d in %d: %d", n, size, were)
				}
				holds(t, "cleared", r, size, nil)
				if were := r.Clear(); were != 0 {
					t.Errorf("Clear once more: %d", were)
				}
				popped(t, r, 0, false)
				filled(t, r, 500, size)
				pushed(t, r, 7, false)
				holds(t, "filled after", r, size, row(500, size))
				popped(t, r, 500, true)
			}
		}
	}
}

func TestP5_1NilRing(t *testing.T) {
	var r *ring.Ring
	for range 2 {
		pushed(t, r, 1, false)
		popped(t, r, 0, false)
		if n := r.Clear(); n != 0 {
			t.Errorf("Clear: %d", n)
		}
		holds(t, "nil", r, 0, nil)
	}
}

// A Ring that New did not make has no room, and none of its calls panics.
func TestP5_1RingOfNoMaking(t *testing.T) {
	var r ring.Ring
	pushed(t, &r, 1, false)
	popped(t, &r, 0, false)
	if n := r.Clear(); n != 0 {
		t.Errorf("Clear: %d", n)
	}
	holds(t, "unmade", &r, 0, nil)
}

func TestP5_2InOrderEachOnce(t *testing.T) {
	for _, size := range []int{1, 2, 3, 7, 64} {
		for kept := range size {
			r := made(t, size)
			filled(t, r, 0, kept)
			for v := range 5 * size {
				pushed(t, r, v+kept, true)
				popped(t, r, v, true)
			}
			holds(t, "gone round", r, size, row(5*size, kept))
		}
	}
}

// walk does what chance says, to a ring and to a plain list, and holds them against each other.
func walk(t *testing.T, chance *rand.Rand, size, steps int) {
	t.Helper()
	r, list := made(t, size), []int(nil)
	// Whether more is pushed or popped turns now and then, so that the ring is full and empty at every place.
	pushes := 5
	for v := range steps {
		if chance.Intn(3*size+3) == 0 {
			pushes = 2 + chance.Intn(7)
		}
		switch n := chance.Intn(100); {
		case n == 0:
			if were := r.Clear(); were != len(list) {
				t.Fatalf("Clear of %d: %d", len(list), were)
			}
			list = nil
		case n%10 < pushes:
			pushed(t, r, v, len(list) < size)
			if len(list) < size {
				list = append(list, v)
			}
		case len(list) == 0:
			popped(t, r, 0, false)
		default:
			popped(t, r, list[0], true)
			list = list[1:]
		}
		holds(t, "by chance", r, size, list)
		if t.Failed() {
			t.Fatalf("at step %d of size %d", v, size)
		}
	}
}

func TestP5_2ByChance(t *testing.T) {
	chance := rand.New(rand.NewSource(5))
	for _, size := range sizes() {
		walk(t, chance, size, 2000)
	}
}

func TestAnswersAreNewMemory(t *testing.T) {
	for _, first := range []int{0, 1, 3} {
		r := turned(t, 4, first, 100, 3)
		one, other := r.All(), r.All()
		for i := range one {
			one[i] = -1
		}
		// What is behind an answer is not the ring's either.
		for i := range one[:cap(one)] {
			one[:cap(one)][i] = -1
		}
		if !slices.Equal(other, row(100, 3)) {
			t.Errorf("two answers share: %v", other)
		}
		holds(t, "an answer changed", r, 4, row(100, 3))
		pushed(t, r, 103, true)
		popped(t, r, 100, true)
		r.Clear()
		if !slices.Equal(other, row(100, 3)) {
			t.Errorf("an answer changed with the ring: %v", other)
		}
	}
}

func TestRingsHaveNothingInCommon(t *testing.T) {
	one, other := made(t, 3), made(t, 3)
	filled(t, one, 10, 3)
	holds(t, "the other one", other, 3, nil)
	filled(t, other, 20, 2)
	popped(t, one, 10, true)
	holds(t, "the other one", other, 3, []int{20, 21})
	if n := other.Clear(); n != 2 {
		t.Errorf("Clear: %d", n)
	}
	holds(t, "the one", one, 3, []int{11, 12})
}

// What cannot be done, or only asks, changes nothing that is told later.
func TestAskingChangesNothing(t *testing.T) {
	for first := range 4 {
		r := turned(t, 3, first, 100, 3)
		for range 3 {
			pushed(t, r, 7, false)
			r.All()
			r.Len()
			r.Size()
		}
		holds(t, "asked", r, 3, row(100, 3))
		for i := range 3 {
			popped(t, r, 100+i, true)
		}
		for range 3 {
			popped(t, r, 0, false)
		}
		filled(t, r, 200, 3)
		holds(t, "filled after", r, 3, row(200, 3))
	}
}
