package wait_test

import (
	"math"
	"math/rand"
	"slices"
	"testing"

	"tarpaulin/api"
	"tarpaulin/wait"
)

// one is a wait of that task and case, that sends v.
func one(task, kase, v int) api.Wait {
	return api.Wait{Task: task, Case: kase, Value: v}
}

// of is a queue of those waits.
func of(t *testing.T, l ...api.Wait) *wait.Queue {
	t.Helper()
	q := wait.New()
	for i, w := range l {
		pushed(t, q, w, i+1)
		goesOn(t)
	}
	return q
}

// tasks is one wait of each of those tasks, in order: of case 0, with its place as value.
func tasks(l ...int) []api.Wait {
	var ws []api.Wait
	for i, task := range l {
		ws = append(ws, one(task, 0, i))
	}
	return ws
}

// holds tells where a queue has not those waits.
func holds(t *testing.T, what string, q *wait.Queue, want []api.Wait) {
	t.Helper()
	if got := q.Len(); got != len(want) {
		t.Errorf("%s: %d wait, not %d", what, got, len(want))
	}
	if got := q.All(); !slices.Equal(got, want) {
		t.Errorf("%s: %v, not %v", what, got, want)
	}
	has := func(task int) bool {
		return slices.ContainsFunc(want, func(w api.Wait) bool { return w.Task == task })
	}
	for task := -1; task <= 4; task++ {
		if got := q.Has(task); got != has(task) {
			t.Errorf("%s: Has(%d) of %v: %v", what, task, want, got)
		}
	}
	for _, w := range want {
		if !q.Has(w.Task) {
			t.Fatalf("%s: Has(%d) of %v: false", what, w.Task, want)
		}
	}
}

// pushed tells where a push is not answered so.
func pushed(t *testing.T, q *wait.Queue, w api.Wait, want int) {
	t.Helper()
	if got := q.Push(w); got != want {
		t.Errorf("Push(%v): %d, not %d", w, got, want)
	}
}

// popped tells where a pop is not answered so.
func popped(t *testing.T, q *wait.Queue, want api.Wait, ok bool) {
	t.Helper()
	if got, is := q.Pop(); got != want || is != ok {
		t.Errorf("Pop: %v %v, not %v %v", got, is, want, ok)
	}
}

// removed tells where a task's going is not answered so.
func removed(t *testing.T, q *wait.Queue, task, want int) {
	t.Helper()
	if got := q.Remove(task); got != want {
		t.Errorf("Remove(%d): %d, not %d", task, got, want)
	}
}

// taken tells where a taking out is not answered so.
func taken(t *testing.T, q *wait.Queue, task, kase int, want api.Wait, ok bool) {
	t.Helper()
	if got, is := q.Take(task, kase); got != want || is != ok {
		t.Errorf("Take(%d, %d): %v %v, not %v %v", task, kase, got, is, want, ok)
	}
}

// goesOn ends a test that has failed: a long loop would tell the same over and over.
func goesOn(t *testing.T) {
	t.Helper()
	if t.Failed() {
		t.FailNow()
	}
}

// emptied pops all that a queue should have, and then finds none, and that it can be used on.
func emptied(t *testing.T, what string, q *wait.Queue, want []api.Wait) {
	t.Helper()
	for i, w := range want {
		holds(t, what, q, want[i:])
		popped(t, q, w, true)
		goesOn(t)
	}
	for range 2 {
		popped(t, q, api.Wait{}, false)
		holds(t, what, q, nil)
	}
	last := one(1, 2, 3)
	pushed(t, q, last, 1)
	holds(t, what, q, []api.Wait{last})
	popped(t, q, last, true)
	holds(t, what, q, nil)
}

func TestP6_1NewIsNobody(t *testing.T) {
	if wait.New() == nil {
		t.Fatal("New: nil")
	}
	q := wait.New()
	holds(t, "new", q, nil)
	for range 2 {
		popped(t, q, api.Wait{}, false)
		removed(t, q, 0, 0)
		taken(t, q, 0, 0, api.Wait{}, false)
	}
	emptied(t, "new", q, nil)
}

func TestP6_1TheExample(t *testing.T) {
	q := of(t, tasks(1, 2, 1)...)
	removed(t, q, 1, 2)
	holds(t, "the example", q, []api.Wait{one(2, 0, 1)})
}

func TestP6_1PushTellsHowMany(t *testing.T) {
	q := wait.New()
	var want []api.Wait
	// There are more than any limit of api: a queue has none.
	for i := range 500 {
		w := one(i%7, i%5, i)
		want = append(want, w)
		pushed(t, q, w, i+1)
		holds(t, "pushed", q, want)
		goesOn(t)
	}
	popped(t, q, want[0], true)
	pushed(t, q, one(1, 1, 1), 500)
	removed(t, q, 0, 71)
	pushed(t, q, one(0, 0, 0), 430)
	taken(t, q, 0, 0, one(0, 0, 0), true)
	pushed(t, q, one(3, 0, 0), 430)
}

func TestP6_1TheSameWaitTwice(t *testing.T) {
	w := one(3, 1, 4)
	q := of(t, w, w, w)
	holds(t, "the same", q, []api.Wait{w, w, w})
	taken(t, q, 3, 1, w, true)
	holds(t, "one taken", q, []api.Wait{w, w})
	popped(t, q, w, true)
	removed(t, q, 3, 1)
	emptied(t, "the same", q, nil)
}

func TestP6_1PopIsTheFirst(t *testing.T) {
	for n := range 70 {
		var want []api.Wait
		for i := range n {
			want = append(want, one(i%3, i%4, 100+i))
		}
		emptied(t, "popped", of(t, want...), want)
	}
}

func TestP6_1RemoveAtEachPlace(t *testing.T) {
	for _, c := range []struct {
		l    []int
		task int
		gone int
	}{
		{[]int{1}, 1, 1},
		{[]int{1}, 2, 0},
		{[]int{1}, 0, 0},
		{[]int{1, 2}, 1, 1},
		{[]int{1, 2}, 2, 1},
		{[]int{1, 1}, 1, 2},
		{[]int{1, 2, 3}, 1, 1},
		{[]int{1, 2, 3}, 2, 1},
		{[]int{1, 2, 3}, 3, 1},
		{[]int{1, 2, 3}, 4, 0},
		{[]int{1, 2, 3}, -1, 0},
		{[]int{1, 1, 2}, 1, 2},
		{[]int{2, 1, 1}, 1, 2},
		{[]int{1, 2, 2, 1}, 1, 2},
		{[]int{2, 1, 1, 2}, 1, 2},
		{[]int{1, 1, 1, 1}, 1, 4},
		{[]int{1, 2, 1, 2, 1}, 1, 3},
		{[]int{1, 2, 1, 2, 1}, 2, 2},
		{[]int{0, -1, 0, 1}, 0, 2},
		{[]int{0, -1, 0, 1}, -1, 1},
	} {
		l := tasks(c.l...)
		q := of(t, l...)
		removed(t, q, c.task, c.gone)
		l = slices.DeleteFunc(l, func(w api.Wait) bool { return w.Task == c.task })
		holds(t, "removed", q, l)
		removed(t, q, c.task, 0)
		emptied(t, "removed", q, l)
	}
}

// All cases of a task go, whatever they are and send.
func TestP6_1RemoveGoesByTaskAlone(t *testing.T) {
	q := of(t, one(1, 2, 3), one(2, 1, 1), one(1, 1, 1), one(3, 1, 1), one(1, -1, 0))
	removed(t, q, 1, 3)
	holds(t, "by task", q, []api.Wait{one(2, 1, 1), one(3, 1, 1)})
}

func TestP6_1TakeIsTheFirstOfTaskAndCase(t *testing.T) {
	l := []api.Wait{
		one(1, 2, 10), one(2, 1, 11), one(1, 1, 12), one(1, 2, 13), one(2, 2, 14), one(1, 1, 15), one(1, 2, 16),
	}
	for _, c := range []struct {
		task, kase int
		places     []int // of l, in the order in which they are taken
	}{
		{1, 2, []int{0, 3, 6}},
		{1, 1, []int{2, 5}},
		{2, 1, []int{1}},
		{2, 2, []int{4}},
		{1, 0, nil},
		{0, 1, nil},
		{3, 1, nil},
		{2, 10, nil},
		{-1, -2, nil},
	} {
		q, left := of(t, l...), slices.Clone(l)
		for _, p := range c.places {
			taken(t, q, c.task, c.kase, l[p], true)
			left = slices.DeleteFunc(left, func(w api.Wait) bool { return w == l[p] })
			holds(t, "taken", q, left)
		}
		for range 2 {
			taken(t, q, c.task, c.kase, api.Wait{}, false)
			holds(t, "not there", q, left)
		}
		emptied(t, "taken", q, left)
	}
}

func TestP6_1AllNumbersMayBe(t *testing.T) {
	numbers := []int{0, -1, 1, math.MinInt, math.MaxInt, 1 << 32, 1<<32 + 1, -1 << 32, 64, api.MaxTime + 1}
	var l []api.Wait
	for _, task := range numbers {
		for _, kase := range numbers {
			l = append(l, one(task, kase, task^kase))
		}
	}
	holds(t, "numbers", of(t, l...), l)
	emptied(t, "numbers", of(t, l...), l)
	q, left := of(t, l...), slices.Clone(l)
	for i := range l {
		// Now here, now there, so that not only first ones are taken.
		w := l[(3*i+50)%len(l)]
		taken(t, q, w.Task, w.Case, w, true)
		left = slices.DeleteFunc(left, func(o api.Wait) bool { return o == w })
		holds(t, "taken", q, left)
		goesOn(t)
	}
	q = of(t, l...)
	for i, task := range numbers {
		if !q.Has(task) {
			t.Errorf("Has(%d): false", task)
		}
		removed(t, q, task, len(numbers))
		if q.Has(task) {
			t.Errorf("Has(%d) of one that is gone", task)
		}
		holds(t, "removed", q, l[(i+1)*len(numbers):])
		goesOn(t)
	}
}

func TestP6_1HasGoesByTaskAlone(t *testing.T) {
	q := of(t, one(1, 2, 3))
	for _, c := range []struct {
		task int
		want bool
	}{{0, false}, {1, true}, {2, false}, {3, false}, {-1, false}} {
		if got := q.Has(c.task); got != c.want {
			t.Errorf("Has(%d): %v", c.task, got)
		}
	}
}

// nobody tells where a queue that takes none in is not so.
func nobody(t *testing.T, q *wait.Queue) {
	t.Helper()
	for range 2 {
		pushed(t, q, one(1, 2, 3), 0)
		popped(t, q, api.Wait{}, false)
		pushed(t, q, one(0, 0, 0), 0)
		removed(t, q, 1, 0)
		removed(t, q, 0, 0)
		taken(t, q, 1, 2, api.Wait{}, false)
		taken(t, q, 0, 0, api.Wait{}, false)
		holds(t, "nil", q, nil)
	}
}

func TestP6_1NilQueue(t *testing.T) {
	nobody(t, nil)
}

// A Queue that New did not make is nobody too, and none of its calls panics.
func TestP6_1QueueOfNoMaking(t *testing.T) {
	var q, other wait.Queue
	holds(t, "unmade", &q, nil)
	removed(t, &q, 0, 0)
	taken(t, &q, 0, 0, api.Wait{}, false)
	emptied(t, "unmade", &q, nil)
	l := tasks(1, 2, 1)
	for i, w := range l {
		pushed(t, &other, w, i+1)
	}
	emptied(t, "unmade", &other, l)
}

// step is one of what can be done with a queue.
type step struct {
	do         int
	task, kase int
}

const (
	push = iota
	pop
	remove
	take
)

// done does a step to a queue, and to a plain list, and holds what they tell against each other; v is what a push sends.
func (s step) done(t *testing.T, q *wait.Queue, list []api.Wait, v int) []api.Wait {
	t.Helper()
	switch s.do {
	case push:
		w := one(s.task, s.kase, v)
		list = append(list, w)
		pushed(t, q, w, len(list))
		return list
	case remove:
		n := len(list)
		list = slices.DeleteFunc(list, func(w api.Wait) bool { return w.Task == s.task })
		removed(t, q, s.task, n-len(list))
		return list
	}
	at := slices.IndexFunc(list, func(w api.Wait) bool {
		return s.do == pop || w.Task == s.task && w.Case == s.kase
	})
	var want api.Wait
	if at >= 0 {
		want = list[at]
		list = slices.Delete(list, at, at+1)
	}
	if s.do == pop {
		popped(t, q, want, at >= 0)
	} else {
		taken(t, q, s.task, s.kase, want, at >= 0)
	}
	return list
}

// fewSteps are those that small queues are tried with.
func fewSteps() []step {
	l := []step{{do: pop}, {do: remove, task: 0}, {do: remove, task: 1}}
	for _, c := range [][2]int{{0, 0}, {0, 1}, {1, 0}} {
		l = append(l, step{push, c[0], c[1]}, step{take, c[0], c[1]})
	}
	return l
}

// All that can be done in so many steps, to queues of none on.
func TestP6_2EachRowOfSteps(t *testing.T) {
	steps, most := fewSteps(), 5
	rows := 1
	for range most {
		rows *= len(steps)
	}
	for row := range rows {
		q, list := wait.New(), []api.Wait(nil)
		for v, rest := 0, row; v < most; v, rest = v+1, rest/len(steps) {
			list = steps[rest%len(steps)].done(t, q, list, v)
		}
		holds(t, "each row", q, list)
		if t.Failed() {
			t.Fatalf("at row %d", row)
		}
	}
}

// Any of some that wait are taken out, in any order: those that stay keep theirs, and one more comes behind them.
func TestP6_2EachOrderOfTaking(t *testing.T) {
	const n = 5
	l := tasks(0, 1, 2, 3, 4)
	rows := 1
	for range n {
		rows *= n
	}
	for row := range rows {
		q, list := of(t, l...), slices.Clone(l)
		for i, rest := 0, row; i < n; i, rest = i+1, rest/n {
			// A task that is gone already is asked for again: nothing is there then.
			s := step{do: take, task: rest % n}
			if i%2 > 0 {
				s.do = remove
			}
			list = s.done(t, q, list, 0)
			holds(t, "each order", q, list)
		}
		list = step{do: push, task: 9}.done(t, q, list, 9)
		emptied(t, "each order", q, list)
		if t.Failed() {
			t.Fatalf("at row %d", row)
		}
	}
}

// walk does what chance says, to a queue and to a plain list, and holds them against each other.
func walk(t *testing.T, chance *rand.Rand, most, steps int) {
	t.Helper()
	q, list := wait.New(), []api.Wait(nil)
	// Whether more come or go turns now and then, so that there are many and none at times.
	pushes := 5
	for v := range steps {
		if chance.Intn(20) == 0 {
			pushes = 2 + chance.Intn(8)
		}
		s := step{do: push, task: chance.Intn(most), kase: chance.Intn(3)}
		if chance.Intn(10) >= pushes {
			s.do = pop + chance.Intn(3)
		}
		list = s.done(t, q, list, v)
		holds(t, "by chance", q, list)
		if t.Failed() {
			t.Fatalf("at step %d of %d tasks: %v", v, most, s)
		}
	}
}

func TestP6_2ByChance(t *testing.T) {
	chance := rand.New(rand.NewSource(6))
	for most := 1; most <= 30; most++ {
		walk(t, chance, most, 2000)
	}
}

func TestP6_2Many(t *testing.T) {
	const n = 100000
	q := wait.New()
	for i := range n {
		pushed(t, q, one(i%2, 0, i), i+1)
		goesOn(t)
	}
	removed(t, q, 1, n/2)
	for i, w := range q.All() {
		if w != one(0, 0, 2*i) {
			t.Fatalf("at %d: %v", i, w)
		}
	}
	for i := range n / 2 {
		popped(t, q, one(0, 0, 2*i), true)
		goesOn(t)
	}
	emptied(t, "many", q, nil)
}

func TestP6_2AnswersAreNewMemory(t *testing.T) {
	l := tasks(1, 2, 3)
	q := of(t, l...)
	first, other := q.All(), q.All()
	// What is behind an answer is not the queue's either.
	spoilt := first[:cap(first)]
	for i := range spoilt {
		spoilt[i] = one(-1, -1, -1)
	}
	if !slices.Equal(other, l) {
		t.Errorf("two answers share: %v", other)
	}
	holds(t, "an answer changed", q, l)
	pushed(t, q, one(4, 0, 3), 4)
	popped(t, q, l[0], true)
	removed(t, q, 3, 1)
	taken(t, q, 2, 0, l[1], true)
	if !slices.Equal(other, l) {
		t.Errorf("an answer changed with the queue: %v", other)
	}
	emptied(t, "an answer changed", q, []api.Wait{one(4, 0, 3)})
}

func TestQueuesHaveNothingInCommon(t *testing.T) {
	l, m := tasks(1, 2, 1), tasks(2, 1)
	q, other := of(t, l...), wait.New()
	holds(t, "the other one", other, nil)
	for i, w := range m {
		pushed(t, other, w, i+1)
	}
	removed(t, q, 1, 2)
	holds(t, "the other one", other, m)
	taken(t, other, 2, 0, m[0], true)
	emptied(t, "the one", q, l[1:2])
	emptied(t, "the other one", other, m[1:])
}

// What cannot be done, or only asks, changes nothing that is told later.
func TestAskingChangesNothing(t *testing.T) {
	l := tasks(1, 2, 1)
	q := of(t, l...)
	for range 3 {
		removed(t, q, 3, 0)
		taken(t, q, 3, 0, api.Wait{}, false)
		taken(t, q, 1, 1, api.Wait{}, false)
		taken(t, q, 0, 1, api.Wait{}, false)
		q.Has(1)
		q.Has(7)
		q.All()
		q.Len()
	}
	emptied(t, "asked", q, l)
}
