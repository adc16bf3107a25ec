package ready_test

import (
	"math"
	"math/rand"
	"slices"
	"testing"

	"tarpaulin/api"
	"tarpaulin/ready"
)

// goesOn ends a test that has failed: a long loop would tell the same over and over.
func goesOn(t *testing.T) {
	t.Helper()
	if t.Failed() {
		t.FailNow()
	}
}

// of is a list of those tasks.
func of(t *testing.T, tasks ...int) *ready.List {
	t.Helper()
	l := ready.New()
	if l == nil {
		t.Fatal("New: none")
	}
	for _, task := range tasks {
		added(t, l, task, api.OK)
		goesOn(t)
	}
	return l
}

// added tells where an Add is not answered so.
func added(t *testing.T, l *ready.List, task int, want api.Errno) {
	t.Helper()
	if e := l.Add(task); e != want {
		t.Errorf("Add(%d) to %v: %d, not %d", task, l.All(), e, want)
	}
}

// picked tells where a Pick is not answered so.
func picked(t *testing.T, l *ready.List, n, want int, ok bool) {
	t.Helper()
	if task, is := l.Pick(n); task != want || is != ok {
		t.Errorf("Pick(%d) of %v: %d %v, not %d %v", n, l.All(), task, is, want, ok)
	}
}

// removed tells where a Remove is not answered so.
func removed(t *testing.T, l *ready.List, task int, want bool) {
	t.Helper()
	if got := l.Remove(task); got != want {
		t.Errorf("Remove(%d) of %v: %v", task, l.All(), got)
	}
}

// holds tells where a list has not those tasks, in order.
func holds(t *testing.T, what string, l *ready.List, want []int) {
	t.Helper()
	if got := l.Len(); got != len(want) {
		t.Errorf("%s: Len %d, not %d", what, got, len(want))
	}
	if got := l.All(); !slices.Equal(got, want) {
		t.Errorf("%s: %v, not %v", what, got, want)
	}
	for i, task := range want {
		picked(t, l, i, task, true)
	}
	if len(want) == 0 {
		picked(t, l, 0, 0, false)
	}
	if t.Failed() {
		t.Fatalf("%s: not %v", what, want)
	}
}

// row is n numbers, from v on.
func row(v, n int) []int {
	var l []int
	for i := range n {
		l = append(l, v+i)
	}
	return l
}

// without is those of l that are not task.
func without(l []int, task int) []int {
	return slices.DeleteFunc(slices.Clone(l), func(other int) bool { return other == task })
}

func TestP8_1NewIsNobody(t *testing.T) {
	l := of(t)
	holds(t, "new", l, nil)
	for _, n := range numbers() {
		picked(t, l, n, 0, false)
		removed(t, l, n, false)
	}
	holds(t, "new still", l, nil)
}

func TestP8_1TheExample(t *testing.T) {
	l := of(t, 5, 7)
	picked(t, l, 3, 7, true)
	holds(t, "the example", l, []int{5, 7})
}

// numbers are some at their edges.
func numbers() []int {
	return []int{
		math.MinInt, math.MinInt + 1, -api.MaxTime - 1, -api.MaxTime, -1<<32 - 1, -1 << 32, -1<<32 + 1, math.MinInt32,
		-65, -64, -63, -3, -2, -1, 0, 1, 2, 3, 63, 64, 65, 1 << 16, math.MaxInt32, 1<<32 - 1, 1 << 32, 1<<32 + 1,
		api.MaxTime, api.MaxTime + 1, math.MaxInt - 1, math.MaxInt,
	}
}

func TestP8_1AddBehindAll(t *testing.T) {
	l := ready.New()
	for n := range 130 {
		holds(t, "on the way", l, row(1, n))
		added(t, l, 1+n, api.OK)
	}
	holds(t, "rising", l, row(1, 130))
	falling := ready.New()
	var want []int
	for task := 70; task >= 0; task-- {
		added(t, falling, task, api.OK)
		want = append(want, task)
		holds(t, "falling", falling, want)
	}
}

// Any number from 0 on is a task.
func TestP8_1AddEachNumber(t *testing.T) {
	l := ready.New()
	var want []int
	for _, task := range numbers() {
		if task < 0 {
			added(t, l, task, api.ErrArg)
			added(t, of(t), task, api.ErrArg)
			added(t, of(t, 0, 1), task, api.ErrArg)
		} else {
			added(t, l, task, api.OK)
			want = append(want, task)
		}
		holds(t, "each number", l, want)
	}
	for _, task := range numbers() {
		added(t, l, task, api.ErrArg)
	}
	holds(t, "each number", l, want)
	for _, task := range numbers() {
		removed(t, l, task, task >= 0)
		want = without(want, task)
		holds(t, "each number gone", l, want)
	}
}

func TestP8_1AddRefusesWhoIsThere(t *testing.T) {
	for n := range 10 {
		l := of(t, row(0, n)...)
		for task := range n {
			added(t, l, task, api.ErrArg)
			holds(t, "there already", l, row(0, n))
		}
		added(t, l, n, api.OK)
		added(t, l, n, api.ErrArg)
		holds(t, "one more", l, row(0, n+1))
	}
}

func TestP8_1AddWhoWasRemoved(t *testing.T) {
	for n := 1; n < 10; n++ {
		for task := range n {
			l := of(t, row(0, n)...)
			removed(t, l, task, true)
			added(t, l, task, api.OK)
			holds(t, "back again", l, append(without(row(0, n), task), task))
			added(t, l, task, api.ErrArg)
			removed(t, l, task, true)
			removed(t, l, task, false)
			holds(t, "gone again", l, without(row(0, n), task))
		}
	}
}

func TestP8_1PickGoesRound(t *testing.T) {
	for count := 1; count <= 70; count++ {
		l := of(t, row(100, count)...)
		for n := -3 * count; n <= 3*count; n++ {
			picked(t, l, n, 100+(n+3*count)%count, true)
		}
		goesOn(t)
		// Who is picked stays.
		holds(t, "picked", l, row(100, count))
	}
}

func TestP8_1PickAtTheEdges(t *testing.T) {
	three := of(t, 9, 8, 7)
	for _, c := range []struct{ n, want int }{
		{math.MaxInt, 8}, {math.MaxInt - 1, 9}, {math.MinInt, 8}, {math.MinInt + 1, 7},
		{-1, 7}, {-2, 8}, {-3, 9}, {-4, 7}, {3, 9}, {4, 8}, {5, 7}, {1 << 32, 8}, {1<<32 + 1, 7}, {-1 << 32, 7},
	} {
		picked(t, three, c.n, c.want, true)
	}
	for _, n := range numbers() {
		picked(t, of(t, 0), n, 0, true)
		picked(t, of(t, 12), n, 12, true)
		// Of two, an even number picks the first one.
		picked(t, of(t, 4, 3), n, 4-n&1, true)
	}
}

func TestP8_1PickAsTheyComeAndGo(t *testing.T) {
	l := of(t, 5, 6, 7)
	picked(t, l, 5, 7, true)
	removed(t, l, 6, true)
	picked(t, l, 5, 7, true)
	picked(t, l, 4, 5, true)
	removed(t, l, 5, true)
	picked(t, l, 4, 7, true)
	added(t, l, 5, api.OK)
	picked(t, l, 4, 7, true)
	picked(t, l, -1, 5, true)
	removed(t, l, 7, true)
	removed(t, l, 5, true)
	picked(t, l, 4, 0, false)
	picked(t, l, 0, 0, false)
}

func TestP8_1RemoveAtEachPlace(t *testing.T) {
	for n := 1; n <= 20; n++ {
		for first := range n {
			l := of(t, row(50, n)...)
			removed(t, l, 50+first, true)
			want := without(row(50, n), 50+first)
			holds(t, "one gone", l, want)
			removed(t, l, 50+first, false)
			for second := range n {
				removed(t, l, 50+second, second != first)
				want = without(want, 50+second)
				holds(t, "more gone", l, want)
			}
			added(t, l, 3, api.OK)
			holds(t, "new", l, []int{3})
		}
	}
}

func TestP8_1RemoveWhoIsNotThere(t *testing.T) {
	for n := range 6 {
		l := of(t, row(10, n)...)
		for _, task := range numbers() {
			removed(t, l, task, false)
			// What is a place is no task.
			removed(t, l, n, false)
			removed(t, l, n-1, false)
		}
		removed(t, l, 10+n, false)
		removed(t, l, 9, false)
		holds(t, "not there", l, row(10, n))
	}
	zero := of(t, 0)
	removed(t, zero, 1, false)
	removed(t, zero, -1, false)
	removed(t, zero, 0, true)
	removed(t, zero, 0, false)
}

// From both ends, and from the midst on.
func TestP8_1RemoveAllInAnyOrder(t *testing.T) {
	chance := rand.New(rand.NewSource(8))
	for n := 1; n <= 40; n++ {
		tasks := chance.Perm(n)
		l, want := of(t, tasks...), slices.Clone(tasks)
		for _, task := range chance.Perm(n) {
			removed(t, l, task, true)
			removed(t, l, task, false)
			want = without(want, task)
			holds(t, "in any order", l, want)
		}
	}
}

func TestP8_1NilList(t *testing.T) {
	var l *ready.List
	for _, n := range numbers() {
		added(t, l, n, api.ErrArg)
		picked(t, l, n, 0, false)
		removed(t, l, n, false)
		holds(t, "nil", l, nil)
	}
}

// A List that New did not make is nobody, and none of its calls panics.
func TestP8_1ListOfNoMaking(t *testing.T) {
	for _, n := range numbers() {
		var l ready.List
		holds(t, "not made", &l, nil)
		picked(t, &l, n, 0, false)
		removed(t, &l, n, false)
		if n < 0 {
			added(t, &l, n, api.ErrArg)
			holds(t, "not made", &l, nil)
			continue
		}
		added(t, &l, n, api.OK)
		added(t, &l, n, api.ErrArg)
		holds(t, "not made", &l, []int{n})
		removed(t, &l, n, true)
		holds(t, "not made", &l, nil)
	}
}

// once tells where one is there twice, or is told otherwise than by its own Add and Remove.
func once(t *testing.T, l *ready.List) {
	t.Helper()
	times := map[int]int{}
	for _, task := range l.All() {
		times[task]++
	}
	if len(times) != l.Len() {
		t.Errorf("%d tasks, and Len %d", len(times), l.Len())
	}
	for task, n := range times {
		if n != 1 {
			t.Errorf("%d is there %d times", task, n)
		}
	}
	goesOn(t)
}

func TestP8_2EachOnce(t *testing.T) {
	l := ready.New()
	for n := range 500 {
		task := n * n % 37
		l.Add(task)
		once(t, l)
		l.Add(task)
		once(t, l)
		if n%5 == 0 {
			removed(t, l, task, true)
			removed(t, l, task, false)
			once(t, l)
		}
	}
}

// steps does each row of so many steps with three tasks, to a list and to a plain one.
func steps(t *testing.T, done []int, left int) {
	t.Helper()
	l := ready.New()
	var want []int
	for _, step := range done {
		task := step % 3
		there := slices.Contains(want, task)
		switch {
		case step >= 3:
			removed(t, l, task, there)
			want = without(want, task)
		case there:
			added(t, l, task, api.ErrArg)
		default:
			added(t, l, task, api.OK)
			want = append(want, task)
		}
	}
	holds(t, "each row of steps", l, want)
	for step := range 6 {
		if left > 0 {
			steps(t, append(slices.Clip(done), step), left-1)
		}
	}
}

func TestP8_2EachRowOfSteps(t *testing.T) {
	steps(t, nil, 6)
}

// walk does what chance says, to a list and to a plain one, and holds them against each other.
func walk(t *testing.T, chance *rand.Rand, most, times int) {
	t.Helper()
	l, want := ready.New(), []int(nil)
	for range times {
		task := chance.Intn(most+2) - 1
		there := slices.Contains(want, task)
		switch chance.Intn(4) {
		case 0, 1:
			if task < 0 || there {
				added(t, l, task, api.ErrArg)
			} else {
				added(t, l, task, api.OK)
				want = append(want, task)
			}
		case 2:
			removed(t, l, task, there)
			want = without(want, task)
		default:
			n := int(chance.Uint64())
			if len(want) > 0 {
				picked(t, l, n, want[(n%len(want)+len(want))%len(want)], true)
			} else {
				picked(t, l, n, 0, false)
			}
		}
		holds(t, "by chance", l, want)
	}
}

func TestP8_2ByChance(t *testing.T) {
	chance := rand.New(rand.NewSource(88))
	for most := 1; most <= 66; most++ {
		walk(t, chance, most, 20*most)
	}
	walk(t, chance, 300, 3000)
}

// What is told is new memory, its spare room too.
func TestAllIsNewMemory(t *testing.T) {
	for n := range 20 {
		l := of(t, row(0, n)...)
		all := l.All()
		for i := range all[:cap(all)] {
			all[:cap(all)][i] = -7
		}
		holds(t, "written over", l, row(0, n))
		added(t, l, n, api.OK)
		holds(t, "one more", l, row(0, n+1))
		before := l.All()
		for task := range n {
			removed(t, l, task, true)
		}
		added(t, l, 100, api.OK)
		if !slices.Equal(before, row(0, n+1)) {
			t.Errorf("what was told is turned: %v", before)
		}
		holds(t, "gone", l, []int{n, 100})
	}
}

func TestListsHaveNothingInCommon(t *testing.T) {
	one, other := of(t, 1, 2), of(t)
	holds(t, "the other one", other, nil)
	added(t, other, 2, api.OK)
	added(t, other, 3, api.OK)
	removed(t, other, 1, false)
	holds(t, "the one", one, []int{1, 2})
	removed(t, one, 2, true)
	removed(t, one, 3, false)
	holds(t, "the other one", other, []int{2, 3})
	added(t, one, 3, api.OK)
	holds(t, "the one", one, []int{1, 3})
}

// What only asks, and what is refused, changes nothing that is told later.
func TestAskingChangesNothing(t *testing.T) {
	for n := range 6 {
		l := of(t, row(0, n)...)
		for range 3 {
			l.Len()
			l.All()
			for _, i := range numbers() {
				l.Pick(i)
			}
			l.Add(-1)
			l.Add(n - 1)
			l.Remove(n)
			l.Remove(-1)
		}
		holds(t, "asked", l, row(0, n))
		added(t, l, n, api.OK)
		holds(t, "added after", l, row(0, n+1))
	}
}
