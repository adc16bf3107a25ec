package heap_test

import (
	"math"
	"math/rand"
	"slices"
	"testing"

	"tarpaulin/api"
	"tarpaulin/heap"
)

// goesOn ends a test that has failed: a long loop would tell the same over and over.
func goesOn(t *testing.T) {
	t.Helper()
	if t.Failed() {
		t.FailNow()
	}
}

// numbers are some at their edges.
func numbers() []int {
	return []int{
		math.MinInt, math.MinInt + 1, -api.MaxTime - 1, -api.MaxTime, -1<<32 - 1, -1 << 32, -1<<32 + 1, math.MinInt32,
		-65, -64, -63, -3, -2, -1, 0, 1, 2, 3, 63, 64, 65, 1 << 16, math.MaxInt32, 1<<32 - 1, 1 << 32, 1<<32 + 1,
		api.MaxTime, api.MaxTime + 1, math.MaxInt - 1, math.MaxInt,
	}
}

// ahead tells whether a is ahead of b.
func ahead(a, b heap.Item) bool {
	return a.When < b.When || a.When == b.When && a.Seq < b.Seq
}

// plain is a heap and beside it the same in a plain list, in the order in which they came.
type plain struct {
	h     *heap.Heap
	items []heap.Item
	seq   int
}

// none is a new heap.
func none(t *testing.T) *plain {
	t.Helper()
	h := heap.New()
	if h == nil {
		t.Fatal("New: none")
	}
	return &plain{h: h}
}

// at is a heap of 0, 1, .. each at its when.
func at(t *testing.T, whens ...int) *plain {
	t.Helper()
	p := none(t)
	for id, when := range whens {
		p.add(t, id, when)
	}
	return p
}

// find is one's place in the plain list, or -1.
func (p *plain) find(id int) int {
	return slices.IndexFunc(p.items, func(it heap.Item) bool { return it.ID == id })
}

// next is one with the next Seq.
func (p *plain) next(id, when int) heap.Item {
	p.seq++
	return heap.Item{ID: id, When: when, Seq: p.seq}
}

// add adds one, to both.
func (p *plain) add(t *testing.T, id, when int) {
	t.Helper()
	want := api.ErrArg
	if p.find(id) < 0 {
		p.items, want = append(p.items, p.next(id, when)), api.OK
	}
	if e := p.h.Add(id, when); e != want {
		t.Fatalf("Add(%d, %d) to %v: %d, not %d", id, when, p.h.Rows(), e, want)
	}
}

// move gives one another time, in both.
func (p *plain) move(t *testing.T, id, when int) {
	t.Helper()
	want := api.ErrNone
	if i := p.find(id); i >= 0 {
		p.items[i], want = p.next(id, when), api.OK
	}
	if e := p.h.Move(id, when); e != want {
		t.Fatalf("Move(%d, %d) of %v: %d, not %d", id, when, p.h.Rows(), e, want)
	}
}

// cut takes one out of the plain list.
func (p *plain) cut(i int) (heap.Item, bool) {
	if i < 0 {
		return heap.Item{}, false
	}
	it := p.items[i]
	p.items = slices.Delete(p.items, i, i+1)
	return it, true
}

// remove takes one out, of both.
func (p *plain) remove(t *testing.T, id int) {
	t.Helper()
	want, is := p.cut(p.find(id))
	if it, ok := p.h.Remove(id); it != want || ok != is {
		t.Fatalf("Remove(%d): %v %v, not %v %v; of %v", id, it, ok, want, is, p.h.Rows())
	}
}

// first is the place in the plain list of who is ahead of all, or -1.
func (p *plain) first() int {
	first := -1
	for i, it := range p.items {
		if first < 0 || ahead(it, p.items[first]) {
			first = i
		}
	}
	return first
}

// pop takes the first one, of both.
func (p *plain) pop(t *testing.T) {
	t.Helper()
	want, is := p.cut(p.first())
	if it, ok := p.h.Pop(); it != want || ok != is {
		t.Fatalf("Pop: %v %v, not %v %v; of %v", it, ok, want, is, p.h.Rows())
	}
}

// holds tells where a heap is not what the plain list is.
func (p *plain) holds(t *testing.T, what string) {
	t.Helper()
	if got := p.h.Len(); got != len(p.items) {
		t.Errorf("%s: Len %d, not %d", what, got, len(p.items))
	}
	want := slices.Clone(p.items)
	for i := range want {
		for j := i; j > 0 && ahead(want[j], want[j-1]); j-- {
			want[j], want[j-1] = want[j-1], want[j]
		}
	}
	if got := p.h.All(); !slices.Equal(got, want) {
		t.Errorf("%s: All %v, not %v", what, got, want)
	}
	var least heap.Item
	if len(want) > 0 {
		least = want[0]
	}
	if it, ok := p.h.Min(); it != least || ok != (len(want) > 0) {
		t.Errorf("%s: Min %v %v, not %v", what, it, ok, least)
	}
	for _, it := range p.items {
		if got, ok := p.h.Find(it.ID); got != it || !ok {
			t.Errorf("%s: Find(%d) %v %v, not %v", what, it.ID, got, ok, it)
		}
	}
	stands(t, what, p.h, want)
	if t.Failed() {
		t.Fatalf("%s: not %v", what, want)
	}
}

// stands tells where the rows are not those, or one of them is ahead of the one above it.
func stands(t *testing.T, what string, h *heap.Heap, want []heap.Item) {
	t.Helper()
	rows := h.Rows()
	for i, it := range rows {
		for under := 4*i + 1; under <= 4*i+4 && under < len(rows); under++ {
			if ahead(rows[under], it) {
				t.Errorf("%s: %v at %d is ahead of %v at %d", what, rows[under], under, it, i)
			}
		}
	}
	if len(rows) > 0 && len(want) > 0 && rows[0] != want[0] {
		t.Errorf("%s: the first of the rows is %v, not %v", what, rows[0], want[0])
	}
	slices.SortFunc(rows, func(a, b heap.Item) int { return a.Seq - b.Seq })
	sorted := slices.Clone(want)
	slices.SortFunc(sorted, func(a, b heap.Item) int { return a.Seq - b.Seq })
	if !slices.Equal(rows, sorted) {
		t.Errorf("%s: the rows are %v, not %v", what, rows, sorted)
	}
}

// rises pops all, and tells where one is not behind the one ahead of it.
func (p *plain) rises(t *testing.T, what string) {
	t.Helper()
	var last heap.Item
	for n := 0; len(p.items) > 0; n++ {
		it, _ := p.h.Min()
		if n > 0 && !ahead(last, it) {
			t.Fatalf("%s: %v is popped ahead of %v", what, last, it)
		}
		last = it
		p.pop(t)
		p.holds(t, what)
	}
	p.pop(t)
	p.holds(t, what)
}

func TestP11_1TheExample(t *testing.T) {
	h := heap.New()
	if e := h.Add(7, 5); e != api.OK {
		t.Fatalf("Add(7, 5): %d", e)
	}
	if e := h.Add(8, 3); e != api.OK {
		t.Fatalf("Add(8, 3): %d", e)
	}
	if it, ok := h.Min(); it != (heap.Item{ID: 8, When: 3, Seq: 2}) || !ok {
		t.Errorf("Min: %v %v", it, ok)
	}
}

func TestP11_1NewIsNone(t *testing.T) {
	p := none(t)
	p.holds(t, "new")
	p.pop(t)
	for _, id := range numbers() {
		p.remove(t, id)
		p.move(t, id, 1)
		if it, ok := p.h.Find(id); it != (heap.Item{}) || ok {
			t.Errorf("Find(%d): %v %v", id, it, ok)
		}
	}
	p.holds(t, "new still")
	// What was refused took no Seq.
	p.add(t, 0, 0)
	p.holds(t, "the first one")
}

// Any number is an ID, and any is a time.
func TestP11_1EachNumber(t *testing.T) {
	p := none(t)
	for i, id := range numbers() {
		p.add(t, id, numbers()[len(numbers())-1-i])
		p.holds(t, "each number")
	}
	for _, id := range numbers() {
		p.add(t, id, 0)
	}
	p.holds(t, "each number")
	for i, id := range numbers() {
		p.move(t, id, numbers()[i])
		p.holds(t, "moved")
	}
	for _, id := range numbers() {
		p.remove(t, id)
		p.remove(t, id)
		p.holds(t, "gone")
	}
}

// Of two whens the less is ahead, however far they are apart.
func TestP11_1TimesAtTheirEdges(t *testing.T) {
	for _, a := range numbers() {
		for _, b := range numbers() {
			p := at(t, a, b)
			p.holds(t, "two")
			p.move(t, 0, b)
			p.move(t, 1, a)
			p.holds(t, "moved")
			p.rises(t, "popped")
		}
	}
	p := at(t, numbers()...)
	p.holds(t, "all")
	p.rises(t, "all")
}

func TestP11_1OneTimeByTheOrderOfComing(t *testing.T) {
	for n := range 40 {
		p := at(t, make([]int, n)...)
		for i, it := range p.h.All() {
			if want := (heap.Item{ID: i, When: 0, Seq: i + 1}); it != want {
				t.Fatalf("of %d at one time: %v at %d", n, it, i)
			}
		}
		p.rises(t, "one time")
		// IDs say nothing of who is ahead.
		for id := n; id > 0; id-- {
			p.add(t, id, 5)
		}
		p.holds(t, "falling IDs")
		p.rises(t, "falling IDs")
	}
}

func TestP11_1AddRefusesWhoIsThere(t *testing.T) {
	for n := range 12 {
		for id := range n {
			p := at(t, 9, 1, 8, 2, 7, 3, 6, 4, 5, 0, 1, 9)
			for _, when := range []int{-1, 0, 5, 9, 10} {
				p.add(t, id, when)
				p.holds(t, "there already")
			}
			p.add(t, 100, 5)
			p.holds(t, "no Seq was taken")
			p.remove(t, id)
			p.add(t, id, 5)
			p.add(t, id, 4)
			p.holds(t, "back again")
		}
	}
}

// A Seq that was given is never given again, not even when all are gone.
func TestP11_1SeqGoesOn(t *testing.T) {
	p := at(t, 4, 4)
	p.rises(t, "all gone")
	p.add(t, 0, 4)
	if it, _ := p.h.Min(); it.Seq != 3 {
		t.Errorf("the third one: %v", it)
	}
	p.move(t, 0, 4)
	if it, _ := p.h.Min(); it.Seq != 4 {
		t.Errorf("moved: %v", it)
	}
	p.remove(t, 0)
	p.move(t, 0, 4)
	p.remove(t, 0)
	p.pop(t)
	p.add(t, 9, 4)
	p.add(t, 9, 4)
	if it, _ := p.h.Min(); it.Seq != 5 {
		t.Errorf("the fifth: %v", it)
	}
	p.holds(t, "at the end")
}

// One that is moved to its own time stands behind the others of that time.
func TestP11_1MoveToItsOwnTime(t *testing.T) {
	for n := 1; n < 30; n++ {
		for id := range n {
			p := at(t, make([]int, n)...)
			p.move(t, id, 0)
			p.holds(t, "behind")
			all := p.h.All()
			if all[n-1].ID != id {
				t.Fatalf("%d of %d, moved: %v", id, n, all)
			}
			p.rises(t, "behind")
		}
	}
}

// Each one to each time: up, down, and where it stands.
func TestP11_1MoveEachToEach(t *testing.T) {
	for n := 1; n < 24; n++ {
		for id := range n {
			for when := -1; when <= 2*n; when++ {
				var whens []int
				for i := range n {
					whens = append(whens, 2*(i*7%n))
				}
				p := at(t, whens...)
				p.move(t, id, when)
				p.holds(t, "moved")
				p.remove(t, id)
				p.move(t, id, when)
				p.holds(t, "gone")
			}
		}
	}
}

func TestP11_1MoveWhoIsNotThere(t *testing.T) {
	p := at(t, 3, 1, 2)
	for _, id := range numbers() {
		if id < 0 || id > 2 {
			p.move(t, id, 0)
			p.remove(t, id)
			if it, ok := p.h.Find(id); it != (heap.Item{}) || ok {
				t.Errorf("Find(%d): %v %v", id, it, ok)
			}
		}
	}
	p.holds(t, "not there")
	p.add(t, 3, 0)
	p.holds(t, "no Seq was taken")
}

// Of each size each one, and then each other.
func TestP11_1RemoveAtEachPlace(t *testing.T) {
	for n := 1; n < 24; n++ {
		for place := range n {
			p := none(t)
			for i := range n {
				p.add(t, 10+i, 100-i*11%n)
			}
			p.remove(t, p.h.Rows()[place].ID)
			p.holds(t, "one gone")
			for len(p.items) > 0 {
				rows := p.h.Rows()
				p.remove(t, rows[place%len(rows)].ID)
				p.holds(t, "more gone")
			}
		}
	}
}

// The last one may be ahead of those above the place that was left: it stands under others.
func TestP11_1RemoveBringsTheLastUp(t *testing.T) {
	// 0 has 1 to 4 below it; 1 has 5 to 8; 2 has 9 to 12.
	p := at(t, 0, 50, 10, 60, 70, 51, 52, 53, 54, 11, 12, 13, 14)
	for i, it := range p.h.Rows() {
		if it.ID != i {
			t.Fatalf("%v stands at %d", it, i)
		}
	}
	p.remove(t, 5)
	p.holds(t, "brought up")
	if rows := p.h.Rows(); rows[1].ID != 12 || rows[5].ID != 1 {
		t.Errorf("the rows: %v", rows)
	}
	p.rises(t, "brought up")
}

// Who is not ahead of the one above it stays where it came to.
func TestP11_1RowsAsTheyStand(t *testing.T) {
	p := at(t, 1, 5, 4, 3, 2)
	for i, it := range p.h.Rows() {
		if it.ID != i {
			t.Errorf("%v stands at %d", it, i)
		}
	}
	p.holds(t, "five")
	// The sixth stands below the second, and the fifth doesn't: four are below each.
	p.add(t, 5, 4)
	if rows := p.h.Rows(); rows[1].ID != 5 || rows[5].ID != 1 {
		t.Errorf("the rows: %v", rows)
	}
	p.holds(t, "six")
	rising := at(t, 0, 1, 2, 3, 4, 5, 6, 7, 8, 9, 10, 11, 12, 13, 14, 15, 16, 17, 18, 19, 20, 21, 22)
	if !slices.Equal(rising.h.Rows(), rising.h.All()) {
		t.Errorf("rising: %v", rising.h.Rows())
	}
}

func TestP11_1Find(t *testing.T) {
	p := at(t, 5, 3, 4)
	if it, ok := p.h.Find(1); it != (heap.Item{ID: 1, When: 3, Seq: 2}) || !ok {
		t.Errorf("Find(1): %v %v", it, ok)
	}
	p.move(t, 1, 9)
	if it, ok := p.h.Find(1); it != (heap.Item{ID: 1, When: 9, Seq: 4}) || !ok {
		t.Errorf("Find(1), moved: %v %v", it, ok)
	}
	p.remove(t, 1)
	if it, ok := p.h.Find(1); it != (heap.Item{}) || ok {
		t.Errorf("Find(1), gone: %v %v", it, ok)
	}
	p.pop(t)
	if it, ok := p.h.Find(2); it != (heap.Item{}) || ok {
		t.Errorf("Find(2), popped: %v %v", it, ok)
	}
	p.holds(t, "one left")
}

func TestP11_1NilHeap(t *testing.T) {
	var h *heap.Heap
	for _, n := range numbers() {
		if e := h.Add(n, n); e != api.ErrArg {
			t.Errorf("Add(%d): %d", n, e)
		}
		if e := h.Move(n, n); e != api.ErrNone {
			t.Errorf("Move(%d): %d", n, e)
		}
		if it, ok := h.Remove(n); it != (heap.Item{}) || ok {
			t.Errorf("Remove(%d): %v %v", n, it, ok)
		}
		if it, ok := h.Find(n); it != (heap.Item{}) || ok {
			t.Errorf("Find(%d): %v %v", n, it, ok)
		}
	}
	p := &plain{h: h}
	p.pop(t)
	p.holds(t, "nil")
}

// A Heap that New did not make is none, and none of its calls panics.
func TestP11_1HeapOfNoMaking(t *testing.T) {
	for _, n := range numbers() {
		p := &plain{h: &heap.Heap{}}
		p.holds(t, "not made")
		p.pop(t)
		p.remove(t, n)
		p.move(t, n, 1)
		p.add(t, n, 2)
		p.add(t, n, 1)
		p.holds(t, "not made")
		p.move(t, n, 1)
		p.rises(t, "not made")
	}
}

// Each row of so many numbers, of 0 to 2 each.
func eachRow(row []int, left int, do func([]int)) {
	do(row)
	for n := range 3 {
		if left > 0 {
			eachRow(append(slices.Clip(row), n), left-1, do)
		}
	}
}

func TestP11_2PoppedRises(t *testing.T) {
	eachRow(nil, 8, func(whens []int) {
		at(t, whens...).rises(t, "each row of whens")
	})
	chance := rand.New(rand.NewSource(11))
	for n := 1; n <= 150; n += 3 {
		at(t, chance.Perm(n)...).rises(t, "each once")
		var whens []int
		for range n {
			whens = append(whens, chance.Intn(n/4+1))
		}
		at(t, whens...).rises(t, "some at one time")
	}
}

// Each row of so many steps with three IDs.
func TestP11_2EachRowOfSteps(t *testing.T) {
	steps := func(p *plain, step int) {
		id := step % 3
		switch step / 3 {
		case 0:
			p.add(t, id, 5)
		case 1:
			p.add(t, id, 4)
		case 2:
			p.move(t, id, 5)
		case 3:
			p.move(t, id, 3)
		case 4:
			p.remove(t, id)
		default:
			p.pop(t)
		}
	}
	var each func(row []int, left int)
	each = func(row []int, left int) {
		p := none(t)
		for _, step := range row {
			steps(p, step)
		}
		p.holds(t, "each row of steps")
		for step := range 16 {
			if left > 0 {
				each(append(slices.Clip(row), step), left-1)
			}
		}
	}
	each(nil, 4)
}

// walk does what chance says.
func walk(t *testing.T, chance *rand.Rand, most, whens, times int) {
	t.Helper()
	p := none(t)
	for range times {
		id, when := chance.Intn(most), chance.Intn(whens)-whens/2
		switch chance.Intn(8) {
		case 0, 1, 2, 3:
			p.add(t, id, when)
		case 4, 5:
			p.move(t, id, when)
		case 6:
			p.remove(t, id)
		default:
			p.pop(t)
		}
		p.holds(t, "by chance")
	}
	p.rises(t, "by chance")
}

func TestP11_2ByChance(t *testing.T) {
	chance := rand.New(rand.NewSource(112))
	for most := 1; most <= 66; most++ {
		walk(t, chance, most, 2, 5*most)
		walk(t, chance, most, 2*most, 10*most)
		walk(t, chance, most, math.MaxInt, 5*most)
	}
	walk(t, chance, 300, 200, 1500)
}

// spoil writes over a list, its spare room too.
func spoil(l []heap.Item) {
	for i := range l[:cap(l)] {
		l[:cap(l)][i] = heap.Item{ID: -7, When: -7, Seq: -7}
	}
}

func TestP11_2NewMemory(t *testing.T) {
	for n := range 20 {
		p := none(t)
		for id := range n {
			p.add(t, id, 30-id)
		}
		spoil(p.h.All())
		spoil(p.h.Rows())
		p.holds(t, "written over")
		p.add(t, n, 3)
		p.holds(t, "one more")
		all, rows := p.h.All(), p.h.Rows()
		allWas, rowsWas := slices.Clone(all), slices.Clone(rows)
		p.move(t, n, 40)
		p.remove(t, n/2)
		p.pop(t)
		p.add(t, 100, 1)
		p.holds(t, "done on")
		if !slices.Equal(all, allWas) || !slices.Equal(rows, rowsWas) {
			t.Errorf("what was told is turned: %v %v", all, rows)
		}
	}
}

func TestHeapsHaveNothingInCommon(t *testing.T) {
	one, other := at(t, 5, 6), none(t)
	other.holds(t, "the other one")
	other.add(t, 1, 9)
	other.remove(t, 0)
	one.holds(t, "the one")
	one.pop(t)
	one.move(t, 1, 1)
	other.holds(t, "the other one")
	other.pop(t)
	one.holds(t, "the one")
}

// What only asks changes nothing that is told later.
func TestAskingChangesNothing(t *testing.T) {
	for n := range 12 {
		var whens []int
		for i := range n {
			whens = append(whens, i*5%7)
		}
		p := at(t, whens...)
		rows := p.h.Rows()
		for range 3 {
			p.h.Len()
			p.h.All()
			p.h.Rows()
			p.h.Min()
			for _, id := range numbers() {
				p.h.Find(id)
			}
			p.h.Find(n - 1)
			p.move(t, n, 0)
			p.remove(t, n)
			if n > 0 {
				p.add(t, n-1, 0)
			}
		}
		if !slices.Equal(p.h.Rows(), rows) {
			t.Errorf("asked: %v, not %v", p.h.Rows(), rows)
		}
		p.holds(t, "asked")
		p.add(t, n, 2)
		p.holds(t, "added after")
	}
}
