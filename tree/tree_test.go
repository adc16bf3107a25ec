package tree_test

import (
	"math"
	"math/rand"
	"slices"
	"testing"

	"tarpaulin/api"
	"tarpaulin/tree"
)

// most is how many there may be.
const most = 1000

// goesOn ends a test that has failed: a long loop would tell the same over and over.
func goesOn(t *testing.T) {
	t.Helper()
	if t.Failed() {
		t.FailNow()
	}
}

// numbers are some at their edges.
func numbers() []int {
	return []int{
		math.MinInt, math.MinInt + 1, -api.MaxTime - 1, -api.MaxTime, -1<<32 - 1, -1 << 32, -1<<32 + 1, math.MinInt32,
		-1001, -1000, -65, -3, -2, -1, 0, 1, 2, 3, 63, 64, 65, 998, 999, 1000, 1001, 1 << 16, math.MaxInt32, 1<<32 - 1,
		1 << 32, 1<<32 + 1, 1<<32 + 2, api.MaxTime, api.MaxTime + 1, math.MaxInt - 1, math.MaxInt,
	}
}

// named is who was named as a parent, and whether it is linked.
type named struct {
	parent int
	linked bool
}

// plain is a tree and beside it the same in a plain list, in which all kids are looked for.
type plain struct {
	tr  *tree.Tree
	all []named
}

// none is a new tree.
func none(t *testing.T) *plain {
	t.Helper()
	tr := tree.New()
	if tr == nil {
		t.Fatal("New: none")
	}
	return &plain{tr: tr}
}

// of is a tree of 0, 1, .. each a kid of its parent.
func of(t *testing.T, parents ...int) *plain {
	t.Helper()
	p := none(t)
	for _, parent := range parents {
		p.add(t, parent, true)
	}
	goesOn(t)
	return p
}

// chain is a tree of n, each a kid of the one ahead of it.
func chain(t *testing.T, n int) *plain {
	t.Helper()
	return of(t, row(-1, n)...)
}

// star is a tree of n, all the others kids of 0.
func star(t *testing.T, n int) *plain {
	t.Helper()
	parents := make([]int, n)
	parents[0] = -1
	return of(t, parents...)
}

// row is n numbers, from v on.
func row(v, n int) []int {
	var l []int
	for i := range n {
		l = append(l, v+i)
	}
	return l
}

// has tells whether one is there.
func (p *plain) has(id int) bool { return id >= 0 && id < len(p.all) }

// add adds one, to both.
func (p *plain) add(t *testing.T, parent int, linked bool) {
	t.Helper()
	want, e := 0, api.OK
	switch {
	case parent != -1 && !p.has(parent):
		e = api.ErrArg
	case len(p.all) >= most:
		e = api.ErrFull
	default:
		want = len(p.all)
		p.all = append(p.all, named{parent, linked && parent != -1})
	}
	if id, got := p.tr.Add(parent, linked); id != want || got != e {
		t.Fatalf("Add(%d, %v) to %v: %d %d, not %d %d", parent, linked, p.all, id, got, want, e)
	}
}

// detach takes one off, in both.
func (p *plain) detach(t *testing.T, id int) {
	t.Helper()
	want := p.has(id) && p.all[id].linked
	was := slices.Clone(p.all)
	if want {
		p.all[id].linked = false
	}
	if got := p.tr.Detach(id); got != want {
		t.Fatalf("Detach(%d) of %v: %v", id, was, got)
	}
}

// kids is who hangs on one, of the plain list.
func (p *plain) kids(id int) []int {
	var kids []int
	for kid, one := range p.all {
		if one.linked && one.parent == id {
			kids = append(kids, kid)
		}
	}
	return kids
}

// walk is one, and all that hang on it, of the plain list.
func (p *plain) walk(id int) []int {
	if !p.has(id) {
		return nil
	}
	l := []int{id}
	for _, kid := range p.kids(id) {
		l = append(l, p.walk(kid)...)
	}
	return l
}

// around is each number of the plain list, and some beside them.
func (p *plain) around() []int {
	return row(-2, len(p.all)+4)
}

// holds tells where a tree is not what the plain list is.
func (p *plain) holds(t *testing.T, what string) {
	t.Helper()
	if got := p.tr.Len(); got != len(p.all) {
		t.Errorf("%s: Len %d, not %d", what, got, len(p.all))
	}
	for _, id := range p.around() {
		p.stands(t, what, id)
	}
	if t.Failed() {
		t.Fatalf("%s: not %v", what, p.all)
	}
}

// stands tells where one is not what it is in the plain list.
func (p *plain) stands(t *testing.T, what string, id int) {
	t.Helper()
	if got, want := p.tr.Kids(id), p.kids(id); !slices.Equal(got, want) {
		t.Errorf("%s: Kids(%d) %v, not %v", what, id, got, want)
	}
	var want named
	if p.has(id) {
		want = p.all[id]
	}
	if parent, linked, ok := p.tr.Parent(id); (named{parent, linked}) != want || ok != p.has(id) {
		t.Errorf("%s: Parent(%d) %d %v %v, not %v", what, id, parent, linked, ok, want)
	}
	walk := p.walk(id)
	if got := p.tr.Walk(id); !slices.Equal(got, walk) {
		t.Errorf("%s: Walk(%d) %v, not %v", what, id, got, walk)
	}
	for _, other := range p.around() {
		if got, want := p.tr.Under(other, id), slices.Contains(walk, other); got != want {
			t.Errorf("%s: Under(%d, %d) %v", what, other, id, got)
		}
	}
}

func TestP14_1TheExample(t *testing.T) {
	tr := tree.New()
	for want, parent := range []int{-1, 0, 0, 1} {
		if id, e := tr.Add(parent, true); id != want || e != api.OK {
			t.Fatalf("Add(%d): %d %d, not %d", parent, id, e, want)
		}
	}
	if got := tr.Walk(0); !slices.Equal(got, []int{0, 1, 3, 2}) {
		t.Errorf("Walk(0): %v", got)
	}
}

func TestP14_1NewIsNone(t *testing.T) {
	p := none(t)
	p.holds(t, "new")
	for _, id := range numbers() {
		p.detach(t, id)
		if id != -1 {
			p.add(t, id, true)
			p.add(t, id, false)
		}
		p.stands(t, "new", id)
	}
	p.holds(t, "new still")
	// What was refused took no number.
	p.add(t, -1, true)
	p.holds(t, "the first one")
}

// One of none is nobody's kid, whether it was to be linked or not.
func TestP14_1AddOfNone(t *testing.T) {
	for _, linked := range []bool{false, true} {
		p := none(t)
		for id := range 5 {
			p.add(t, -1, linked)
			if parent, is, ok := p.tr.Parent(id); parent != -1 || is || !ok {
				t.Errorf("Add(-1, %v): Parent %d %v %v", linked, parent, is, ok)
			}
			p.holds(t, "of none")
		}
		for id := range 5 {
			p.detach(t, id)
			p.holds(t, "of none still")
		}
	}
}

func TestP14_1AddLinked(t *testing.T) {
	p := of(t, -1, 0)
	if parent, linked, ok := p.tr.Parent(1); parent != 0 || !linked || !ok {
		t.Errorf("Parent(1): %d %v %v", parent, linked, ok)
	}
	if got := p.tr.Kids(0); !slices.Equal(got, []int{1}) {
		t.Errorf("Kids(0): %v", got)
	}
	p.holds(t, "linked")
}

// One that is not linked is nobody's kid, and tells who was named.
func TestP14_1AddNotLinked(t *testing.T) {
	p := of(t, -1, 0)
	p.add(t, 1, false)
	if parent, linked, ok := p.tr.Parent(2); parent != 1 || linked || !ok {
		t.Errorf("Parent(2): %d %v %v", parent, linked, ok)
	}
	if got := p.tr.Kids(1); len(got) != 0 {
		t.Errorf("Kids(1): %v", got)
	}
	p.holds(t, "not linked")
	p.detach(t, 2)
	p.holds(t, "not linked still")
	// Its own kids are its own.
	p.add(t, 2, true)
	p.add(t, 1, true)
	p.holds(t, "kids of one that is not linked")
}

// Each one as a parent, of each size: behind its others.
func TestP14_1AddBehindTheOthers(t *testing.T) {
	for n := 1; n < 16; n++ {
		for parent := range n {
			p := star(t, n)
			for range 3 {
				p.add(t, parent, true)
				p.add(t, parent, false)
				p.add(t, 0, true)
				p.holds(t, "behind")
			}
		}
	}
}

// A parent that is neither -1 nor there, of each size; one that is to come is not there either.
func TestP14_1AddRefusesAParentThatIsNotThere(t *testing.T) {
	for n := range 8 {
		p := of(t, row(-1, n)...)
		wrong := append(numbers(), n, n+1, -n, -n-1, n-1|1<<32, n-1|1<<62)
		for _, parent := range wrong {
			if parent == -1 || p.has(parent) {
				continue
			}
			for _, linked := range []bool{false, true} {
				if id, e := p.tr.Add(parent, linked); id != 0 || e != api.ErrArg {
					t.Errorf("Add(%d, %v) to %d: %d %d", parent, linked, n, id, e)
				}
			}
			p.holds(t, "refused")
		}
		p.add(t, n-1, true)
		p.holds(t, "no number was taken")
	}
}

// filled is one of each shape of a thousand.
func filled(t *testing.T) []*plain {
	t.Helper()
	fours := make([]int, most)
	for i := range fours {
		fours[i] = (i+3)/4 - 1
	}
	loose := none(t)
	for i := range most {
		loose.add(t, i/2-1, false)
	}
	ones := make([]int, most)
	for i := range ones {
		ones[i] = -1
	}
	return []*plain{chain(t, most), star(t, most), of(t, fours...), of(t, ones...), loose}
}

func TestP14_1Full(t *testing.T) {
	for _, p := range filled(t) {
		was := p.tr.Walk(0)
		for _, linked := range []bool{false, true} {
			for _, parent := range []int{-1, 0, 1, 500, 998, 999} {
				if id, e := p.tr.Add(parent, linked); id != 0 || e != api.ErrFull {
					t.Errorf("the 1001st, of %d: %d %d", parent, id, e)
				}
			}
			// A wrong parent is told ahead of the want of room.
			for _, parent := range []int{math.MinInt, -2, 1000, 1001, math.MaxInt} {
				if id, e := p.tr.Add(parent, linked); id != 0 || e != api.ErrArg {
					t.Errorf("the 1001st, of %d: %d %d", parent, id, e)
				}
			}
		}
		if got := p.tr.Walk(0); !slices.Equal(got, was) || p.tr.Len() != most {
			t.Errorf("full: Walk(0) %d, not %d; Len %d", len(got), len(was), p.tr.Len())
		}
		for id := range most {
			if parent, linked, ok := p.tr.Parent(id); (named{parent, linked}) != p.all[id] || !ok {
				t.Fatalf("full: Parent(%d) %d %v %v, not %v", id, parent, linked, ok, p.all[id])
			}
		}
		// Who is detached is there still.
		p.detach(t, 999)
		p.detach(t, 1)
		p.add(t, -1, true)
		p.add(t, 0, true)
		p.add(t, 1000, true)
	}
}

// A thousand are there, and no fewer.
func TestP14_1TheThousandth(t *testing.T) {
	for _, parent := range []int{-1, 0, 500, 998} {
		for _, linked := range []bool{false, true} {
			p := chain(t, most-1)
			if id, e := p.tr.Add(parent, linked); id != 999 || e != api.OK {
				t.Errorf("the 1000th, of %d: %d %d", parent, id, e)
			}
			if id, e := p.tr.Add(parent, linked); id != 0 || e != api.ErrFull {
				t.Errorf("the 1001st, of %d: %d %d", parent, id, e)
			}
			if got := p.tr.Len(); got != most {
				t.Errorf("Len %d", got)
			}
			if got, want := p.tr.Under(999, parent), linked && parent != -1; got != want {
				t.Errorf("Under(999, %d): %v", parent, got)
			}
		}
	}
}

// Of each size each one, and then each other.
func TestP14_1DetachAtEachPlace(t *testing.T) {
	for n := 1; n < 12; n++ {
		for first := range n {
			for step := 1; step < n; step++ {
				p := star(t, n)
				for i := range n {
					p.detach(t, (first+i*step)%n)
					p.holds(t, "one gone")
				}
				p.add(t, 0, true)
				p.holds(t, "one more")
			}
		}
	}
}

func TestP14_1DetachTellsWhetherItWas(t *testing.T) {
	p := of(t, -1, 0, 1)
	p.add(t, 0, false)
	for _, c := range []struct {
		id   int
		want bool
	}{{0, false}, {1, true}, {1, false}, {1, false}, {2, true}, {2, false}, {3, false}, {0, false}, {4, false}, {-1, false}} {
		if got := p.tr.Detach(c.id); got != c.want {
			t.Errorf("Detach(%d): %v", c.id, got)
		}
		if c.want {
			p.all[c.id].linked = false
		}
		p.holds(t, "detached")
	}
}

// Who is detached tells who was named, and that it is not linked.
func TestP14_1ParentBehindDetach(t *testing.T) {
	for n := 2; n < 12; n++ {
		for id := 1; id < n; id++ {
			p := chain(t, n)
			p.detach(t, id)
			if parent, linked, ok := p.tr.Parent(id); parent != id-1 || linked || !ok {
				t.Errorf("Parent(%d): %d %v %v", id, parent, linked, ok)
			}
			p.holds(t, "cut")
		}
	}
}

// Its own kids stay its own, and it may have more.
func TestP14_1DetachKeepsItsKids(t *testing.T) {
	p := of(t, -1, 0, 0, 1, 1, 3, 2)
	p.detach(t, 1)
	if got := p.tr.Kids(1); !slices.Equal(got, []int{3, 4}) {
		t.Errorf("Kids(1): %v", got)
	}
	if got := p.tr.Walk(1); !slices.Equal(got, []int{1, 3, 5, 4}) {
		t.Errorf("Walk(1): %v", got)
	}
	if got := p.tr.Walk(0); !slices.Equal(got, []int{0, 2, 6}) {
		t.Errorf("Walk(0): %v", got)
	}
	p.holds(t, "detached")
	p.add(t, 1, true)
	p.add(t, 0, true)
	p.add(t, 5, true)
	p.holds(t, "more of it")
	p.detach(t, 3)
	p.holds(t, "a kid of it detached")
}

func TestP14_1DetachWhoIsNotThere(t *testing.T) {
	p := of(t, -1, 0, 0, 1)
	for _, id := range append(numbers(), 4, 5, 1|1<<32, 3|1<<62) {
		if !p.has(id) {
			p.detach(t, id)
		}
	}
	p.holds(t, "not there")
}

// Each number that is not there is none's.
func TestP14_1WhoIsNotThere(t *testing.T) {
	p := of(t, -1, 0, 1, 1)
	for _, id := range append(numbers(), 4, 5, 1|1<<32, 3|1<<62) {
		p.stands(t, "at the edges", id)
		for top := range p.all {
			if got, want := p.tr.Under(id, top), slices.Contains(p.walk(top), id); got != want {
				t.Errorf("Under(%d, %d): %v", id, top, got)
			}
			if got, want := p.tr.Under(top, id), slices.Contains(p.walk(id), top); got != want {
				t.Errorf("Under(%d, %d): %v", top, id, got)
			}
		}
		if got := p.tr.Under(id, id); got != p.has(id) {
			t.Errorf("Under(%d, %d): %v", id, id, got)
		}
	}
	p.holds(t, "asked")
}

// Kid by kid, and all of one ahead of the next.
func TestP14_2Walk(t *testing.T) {
	for _, c := range []struct {
		parents []int
		id      int
		want    []int
	}{
		{[]int{-1}, 0, []int{0}},
		{[]int{-1, -1}, 0, []int{0}},
		{[]int{-1, -1}, 1, []int{1}},
		{[]int{-1, 0, 0, 0}, 0, []int{0, 1, 2, 3}},
		{[]int{-1, 0, 1, 2}, 0, []int{0, 1, 2, 3}},
		{[]int{-1, 0, 0, 1}, 0, []int{0, 1, 3, 2}},
		{[]int{-1, 0, 0, 1}, 1, []int{1, 3}},
		{[]int{-1, 0, 0, 1}, 2, []int{2}},
		{[]int{-1, 0, 0, 2, 1, 2, 1, 4}, 0, []int{0, 1, 4, 7, 6, 2, 3, 5}},
		{[]int{-1, -1, 0, 1, 2, 3, 0, 1}, 1, []int{1, 3, 5, 7}},
		{[]int{-1, -1, 0, 1, 2, 3, 0, 1}, 0, []int{0, 2, 4, 6}},
	} {
		p := of(t, c.parents...)
		if got := p.tr.Walk(c.id); !slices.Equal(got, c.want) {
			t.Errorf("%v: Walk(%d) %v, not %v", c.parents, c.id, got, c.want)
		}
		p.holds(t, "walked")
	}
}

func TestP14_2WalkOfAThousand(t *testing.T) {
	if got := chain(t, most).tr.Walk(0); !slices.Equal(got, row(0, most)) {
		t.Errorf("a chain: %v", got)
	}
	if got := chain(t, most).tr.Walk(997); !slices.Equal(got, []int{997, 998, 999}) {
		t.Errorf("a chain's end: %v", got)
	}
	p := star(t, most)
	if got := p.tr.Walk(0); !slices.Equal(got, row(0, most)) {
		t.Errorf("a star: %v", got)
	}
	if got := p.tr.Kids(0); !slices.Equal(got, row(1, most-1)) {
		t.Errorf("a star's kids: %v", got)
	}
}

func TestP14_2UnderInAChain(t *testing.T) {
	p := chain(t, most)
	for _, id := range []int{0, 1, 2, 499, 500, 998, 999} {
		for top := range most {
			if got := p.tr.Under(id, top); got != (top <= id) {
				t.Errorf("Under(%d, %d): %v", id, top, got)
			}
		}
	}
	goesOn(t)
	p.detach(t, 500)
	for _, id := range []int{0, 1, 2, 499, 500, 998, 999} {
		for top := range most {
			if got, want := p.tr.Under(id, top), top <= id && (id < 500 || top >= 500); got != want {
				t.Errorf("cut: Under(%d, %d): %v", id, top, got)
			}
		}
	}
}

// Who was named, and is not hung on, has it not in its Walk.
func TestP14_2UnderWhoIsNotLinked(t *testing.T) {
	p := of(t, -1, 0)
	p.add(t, 1, false)
	p.add(t, 2, true)
	for _, c := range []struct {
		id, top int
		want    bool
	}{{2, 2, true}, {2, 1, false}, {2, 0, false}, {3, 2, true}, {3, 1, false}, {3, 0, false}, {1, 0, true}, {0, 1, false}, {2, 3, false}, {2, -1, false}, {0, -1, false}} {
		if got := p.tr.Under(c.id, c.top); got != c.want {
			t.Errorf("Under(%d, %d): %v", c.id, c.top, got)
		}
	}
	p.holds(t, "not linked")
}

func TestP14_2NilTree(t *testing.T) {
	var tr *tree.Tree
	p := &plain{tr: tr}
	for _, n := range numbers() {
		for _, linked := range []bool{false, true} {
			if id, e := tr.Add(n, linked); id != 0 || e != api.ErrArg {
				t.Errorf("Add(%d): %d %d", n, id, e)
			}
		}
		p.detach(t, n)
		p.stands(t, "nil", n)
		if tr.Under(n, n) {
			t.Errorf("Under(%d, %d)", n, n)
		}
	}
	p.holds(t, "nil")
}

// A Tree that New did not make is none, and none of its calls panics.
func TestP14_2TreeOfNoMaking(t *testing.T) {
	p := &plain{tr: &tree.Tree{}}
	p.holds(t, "not made")
	p.detach(t, 0)
	p.add(t, 0, true)
	p.add(t, -1, true)
	p.add(t, 0, true)
	p.holds(t, "not made")
	p.detach(t, 1)
	p.holds(t, "not made")
}

// sound tells where one has two parents, or stands twice in a Walk.
func sound(t *testing.T, tr *tree.Tree) {
	t.Helper()
	above := map[int]int{}
	for id := range tr.Len() {
		for _, kid := range tr.Kids(id) {
			if parent, linked, _ := tr.Parent(kid); parent != id || !linked {
				t.Errorf("%d is a kid of %d, and tells %d %v", kid, id, parent, linked)
			}
			above[kid]++
		}
		seen := map[int]int{}
		for _, under := range tr.Walk(id) {
			seen[under]++
			if seen[under] > 1 {
				t.Errorf("Walk(%d) has %d twice", id, under)
			}
		}
	}
	for kid, n := range above {
		if n != 1 {
			t.Errorf("%d has %d parents", kid, n)
		}
	}
	goesOn(t)
}

// Each tree of so many, each linked or not, and then each one detached.
func TestP14_3EachTree(t *testing.T) {
	var each func(all []named, left int)
	each = func(all []named, left int) {
		for out := -1; out < len(all); out++ {
			p := none(t)
			for _, one := range all {
				p.add(t, one.parent, one.linked)
			}
			p.detach(t, out)
			p.holds(t, "each tree")
			sound(t, p.tr)
		}
		for parent := -1; parent < len(all) && left > 0; parent++ {
			each(append(slices.Clip(all), named{parent, true}), left-1)
			each(append(slices.Clip(all), named{parent, false}), left-1)
		}
	}
	each(nil, 4)
}

// Each tree of linked ones alone, of a greater size.
func TestP14_3EachLinkedTree(t *testing.T) {
	var each func(parents []int, left int)
	each = func(parents []int, left int) {
		p := of(t, parents...)
		p.holds(t, "each linked tree")
		sound(t, p.tr)
		for parent := -1; parent < len(parents) && left > 0; parent++ {
			each(append(slices.Clip(parents), parent), left-1)
		}
	}
	each(nil, 6)
}

// Each row of so many steps: added to one of three, or taken off.
func TestP14_3EachRowOfSteps(t *testing.T) {
	var each func(row []int, left int)
	each = func(row []int, left int) {
		p := none(t)
		for _, step := range row {
			switch {
			case step < 4:
				p.add(t, step-1, true)
			case step < 6:
				p.add(t, step-4, false)
			default:
				p.detach(t, step-5)
			}
		}
		p.holds(t, "each row of steps")
		for step := range 10 {
			if left > 0 {
				each(append(slices.Clip(row), step), left-1)
			}
		}
	}
	each(nil, 4)
}

// grow does what chance says: near is how far back a parent stands at most.
func grow(t *testing.T, chance *rand.Rand, near, times int) {
	t.Helper()
	p := none(t)
	for range times {
		n := len(p.all)
		switch chance.Intn(7) {
		case 0, 1, 2:
			p.add(t, n-1-chance.Intn(near), true)
		case 3:
			p.add(t, n-1-chance.Intn(near), false)
		case 4:
			p.detach(t, n-1-chance.Intn(near))
		case 5:
			p.detach(t, chance.Intn(n+2)-1)
		default:
			p.add(t, chance.Intn(n+3)-2, chance.Intn(4) > 0)
		}
		p.stands(t, "by chance", chance.Intn(n+2)-1)
		goesOn(t)
	}
	p.holds(t, "by chance")
	sound(t, p.tr)
}

func TestP14_3ByChance(t *testing.T) {
	chance := rand.New(rand.NewSource(14))
	for n := 1; n <= 60; n++ {
		grow(t, chance, 1, n)
		grow(t, chance, 2+n/8, n)
		grow(t, chance, n, 2*n)
	}
	grow(t, chance, 3, 400)
	grow(t, chance, 400, 400)
}

// A tree of a thousand, all taken off in any order.
func TestP14_3AllTakenOff(t *testing.T) {
	chance := rand.New(rand.NewSource(143))
	for _, p := range filled(t) {
		for n, id := range chance.Perm(most) {
			p.detach(t, id)
			p.detach(t, id)
			if n%100 == 0 {
				sound(t, p.tr)
			}
		}
		for id := range most {
			if walk, kids := p.tr.Walk(id), p.tr.Kids(id); !slices.Equal(walk, []int{id}) || len(kids) != 0 {
				t.Fatalf("alone: Walk(%d) %v, Kids %v", id, walk, kids)
			}
		}
	}
}

// spoil writes over a list, its spare room too.
func spoil(l []int) {
	for i := range l[:cap(l)] {
		l[:cap(l)][i] = -7
	}
}

func TestP14_3NewMemory(t *testing.T) {
	for n := 1; n < 24; n++ {
		p := star(t, n)
		p.add(t, n-1, true)
		for id := range p.all {
			spoil(p.tr.Kids(id))
			spoil(p.tr.Walk(id))
		}
		p.holds(t, "written over")
		p.add(t, 0, true)
		p.holds(t, "one more")
		kids, walk := p.tr.Kids(0), p.tr.Walk(0)
		kidsWas, walkWas := slices.Clone(kids), slices.Clone(walk)
		p.detach(t, 1)
		p.add(t, 0, true)
		p.detach(t, n/2)
		p.add(t, n/2, true)
		p.holds(t, "done on")
		if !slices.Equal(kids, kidsWas) || !slices.Equal(walk, walkWas) {
			t.Errorf("what was told is turned: %v %v", kids, walk)
		}
	}
}

func TestTreesHaveNothingInCommon(t *testing.T) {
	one, other := of(t, -1, 0, 1), none(t)
	other.holds(t, "the other one")
	other.add(t, -1, true)
	other.add(t, 0, false)
	other.detach(t, 1)
	one.holds(t, "the one")
	one.detach(t, 1)
	one.add(t, 2, true)
	other.holds(t, "the other one")
	other.add(t, 0, true)
	one.holds(t, "the one")
}

// What only asks, and what is refused, changes nothing that is told later.
func TestAskingChangesNothing(t *testing.T) {
	for n := 1; n < 8; n++ {
		p := star(t, n)
		p.add(t, 0, false)
		p.detach(t, 1)
		for range 3 {
			p.tr.Len()
			for _, id := range append(numbers(), n-1, n, n+1) {
				p.tr.Kids(id)
				p.tr.Walk(id)
				p.tr.Parent(id)
				p.tr.Under(id, 0)
				p.tr.Under(0, id)
				if id != -1 && !p.has(id) {
					p.add(t, id, true)
					p.detach(t, id)
				}
			}
			p.detach(t, n)
			p.detach(t, 0)
		}
		p.holds(t, "asked")
		p.add(t, 0, true)
		p.holds(t, "added after")
	}
}
