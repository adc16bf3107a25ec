package task_test

import (
	"math"
	"math/rand"
	"slices"
	"testing"

	"tarpaulin/api"
	"tarpaulin/task"
)

type registers = [api.Regs]int

// goesOn ends a test that has failed: a long loop would tell the same over and over.
func goesOn(t *testing.T) {
	t.Helper()
	if t.Failed() {
		t.FailNow()
	}
}

// numbers are some at their edges.
func numbers() []int {
	return []int{
		math.MinInt, math.MinInt + 1, -1<<32 - 1, -1 << 32, -1<<32 + 1, math.MinInt32, -1000, -65, -64, -3, -2, -1, 0, 1, 2,
		3, 4, 7, 8, 15, 16, 17, 62, 63, 64, 65, 127, 128, 1000, 1 << 16, math.MaxInt32, 1<<32 - 1, 1 << 32, 1<<32 + 1,
		1<<32 + 2, math.MaxInt - 1, math.MaxInt,
	}
}

// from are registers that count on from n.
func from(n int) registers {
	var r registers
	for i := range r {
		r[i] = n + i
	}
	return r
}

// sends, receives and selects are what one may park at.
func sends() api.Instr    { return api.Instr{Op: api.Send, A: 1, B: 2} }
func receives() api.Instr { return api.Instr{Op: api.Recv, A: 1, B: 2, C: 3} }
func selects() api.Instr {
	return api.Instr{Op: api.Select, A: 4, B: 5, C: 6, Cases: []api.Case{
		{Chan: 1}, {Send: true, Chan: 2, Val: 3}, {Chan: 7}, {Send: true},
	}}
}

// alike tells whether two instructions are.
func alike(a, b api.Instr) bool {
	return a.Op == b.Op && a.A == b.A && a.B == b.B && a.C == b.C && a.Default == b.Default && slices.Equal(a.Cases, b.Cases)
}

// same tells whether two tasks are alike.
func same(a, b task.Task) bool {
	return a.Prog == b.Prog && a.PC == b.PC && a.State == b.State && a.How == b.How && a.Regs == b.Regs && alike(a.Instr, b.Instr)
}

// plain is a table, and beside it the same in two plain lists.
type plain struct {
	b     *task.Table
	all   []task.Task
	ready []int
}

// none is a new table.
func none(t *testing.T) *plain {
	t.Helper()
	b := task.New()
	if b == nil {
		t.Fatal("New: none")
	}
	return &plain{b: b}
}

// of is a table of so many that are ready.
func of(t *testing.T, n int) *plain {
	t.Helper()
	p := none(t)
	for i := range n {
		p.start(t, i, from(10*i))
	}
	goesOn(t)
	return p
}

// refusal is what a call is refused with that wants a task of one of these states.
func (p *plain) refusal(id int, states ...int) api.Errno {
	switch {
	case id < 0 || id >= len(p.all):
		return api.ErrNone
	case !slices.Contains(states, p.all[id].State):
		return api.ErrDone
	}
	return api.OK
}

// leaves has one ready no more.
func (p *plain) leaves(id int) {
	p.ready = slices.DeleteFunc(p.ready, func(r int) bool { return r == id })
}

// told tells where a call was not answered so.
func (p *plain) told(t *testing.T, what string, id int, e, want api.Errno) {
	t.Helper()
	if e != want {
		t.Fatalf("%s %d of %d: %d, not %d", what, id, len(p.all), e, want)
	}
}

// start starts one, in both.
func (p *plain) start(t *testing.T, prog int, regs registers) {
	t.Helper()
	want, wantE := 0, api.OK
	switch {
	case prog < 0:
		wantE = api.ErrArg
	case len(p.all) >= 64:
		wantE = api.ErrFull
	default:
		want = len(p.all)
		p.all = append(p.all, task.Task{Prog: prog, Regs: regs})
		p.ready = append(p.ready, want)
	}
	if id, e := p.b.Start(prog, regs); id != want || e != wantE {
		t.Fatalf("Start(%d): %d %d, not %d %d", prog, id, e, want, wantE)
	}
}

// put says where one is, in both.
func (p *plain) put(t *testing.T, id, pc int, regs registers) {
	t.Helper()
	want := p.refusal(id, api.Ready)
	if want == api.OK {
		p.all[id].PC, p.all[id].Regs = pc, regs
	}
	p.told(t, "Put", id, p.b.Put(id, pc, regs), want)
}

// park parks one, in both; mayBe is whether it may park at that.
func (p *plain) park(t *testing.T, id int, i api.Instr, mayBe bool) {
	t.Helper()
	want := p.refusal(id, api.Ready)
	if want == api.OK && !mayBe {
		want = api.ErrArg
	}
	if want == api.OK {
		p.all[id].State, p.all[id].Instr = api.Parked, i
		p.leaves(id)
	}
	p.told(t, "Park", id, p.b.Park(id, i), want)
}

// wake wakes one, in both.
func (p *plain) wake(t *testing.T, w api.Wake) {
	t.Helper()
	want := p.refusal(w.Task, api.Parked)
	if want == api.OK {
		p.awake(w)
	}
	p.told(t, "Wake", w.Task, p.b.Wake(w), want)
}

// awake is a wake of one that is parked, in the plain table.
func (p *plain) awake(w api.Wake) {
	x := &p.all[w.Task]
	i := x.Instr
	x.Instr = api.Instr{}
	if w.Panic {
		x.State, x.How = api.Ended, 1
		return
	}
	isSelect := i.Op == api.Select
	if isSelect {
		x.Regs[i.A] = w.Case
	}
	if i.Op == api.Recv || isSelect && w.Case >= 0 && w.Case < len(i.Cases) && !i.Cases[w.Case].Send {
		x.Regs[i.B] = w.Value
		x.Regs[i.C] = map[bool]int{true: 1}[w.OK]
	}
	x.PC++
	x.State = api.Ready
	p.ready = append(p.ready, w.Task)
}

// end ends one, in both.
func (p *plain) end(t *testing.T, id, how int) {
	t.Helper()
	want := p.refusal(id, api.Ready, api.Parked)
	if want == api.OK {
		x := &p.all[id]
		x.State, x.How, x.Instr = api.Ended, how, api.Instr{}
		p.leaves(id)
	}
	p.told(t, "End", id, p.b.End(id, how), want)
}

// stands tells where one is not as in the plain table.
func (p *plain) stands(t *testing.T, what string, id int) {
	t.Helper()
	var want task.Task
	is := id >= 0 && id < len(p.all)
	if is {
		want = p.all[id]
	}
	if x, ok := p.b.Get(id); !same(x, want) || ok != is {
		t.Errorf("%s: Get(%d): %v %v, not %v %v", what, id, x, ok, want, is)
	}
}

// picks tells where not the one is picked that should be.
func (p *plain) picks(t *testing.T, what string, n int) {
	t.Helper()
	want, is := 0, len(p.ready) > 0
	if is {
		// From 0 on, also of a number below 0.
		want = p.ready[(n%len(p.ready)+len(p.ready))%len(p.ready)]
	}
	if id, ok := p.b.Pick(n); id != want || ok != is {
		t.Errorf("%s: Pick(%d) of %v: %d %v", what, n, p.ready, id, ok)
	}
}

// holds tells where the table is not as the plain one.
func (p *plain) holds(t *testing.T, what string) {
	t.Helper()
	if p.b.Len() != len(p.all) {
		t.Errorf("%s: Len %d, not %d", what, p.b.Len(), len(p.all))
	}
	if l := p.b.Ready(); !slices.Equal(l, p.ready) {
		t.Errorf("%s: Ready %v, not %v", what, l, p.ready)
	}
	for id := -1; id <= len(p.all); id++ {
		p.stands(t, what, id)
	}
	for n := -3; n <= len(p.ready); n++ {
		p.picks(t, what, n)
	}
	goesOn(t)
}

// The example of the chapter.
func TestExample(t *testing.T) {
	b := task.New()
	b.Start(0, registers{})
	b.Start(0, registers{})
	if id, ok := b.Pick(1); id != 1 || !ok {
		t.Errorf("Pick(1): %d %v", id, ok)
	}
}

// A new one is ready, at 0, with its registers, behind all that are ready.
func TestP17_1Start(t *testing.T) {
	p := none(t)
	p.holds(t, "none")
	p.start(t, 3, from(100))
	p.holds(t, "one")
	p.start(t, 0, registers{})
	p.start(t, 3, from(-5))
	p.holds(t, "three")
	x, ok := p.b.Get(2)
	if want := (task.Task{Prog: 3, State: api.Ready, Regs: from(-5)}); !same(x, want) || !ok {
		t.Errorf("the last: %v %v", x, ok)
	}
	p.park(t, 0, sends(), true)
	p.start(t, 1, from(1))
	p.wake(t, api.Wake{Task: 0})
	p.start(t, 1, from(2))
	p.holds(t, "one was parked")
	if l := p.b.Ready(); !slices.Equal(l, []int{1, 2, 3, 0, 4}) {
		t.Errorf("ready: %v", l)
	}
}

// A program below 0 is refused, and no other.
func TestP17_1StartPrograms(t *testing.T) {
	p := none(t)
	for _, prog := range numbers() {
		p.start(t, prog, from(prog))
		p.holds(t, "started")
	}
	if len(p.all) == 0 || len(p.all) == len(numbers()) {
		t.Errorf("%d started", len(p.all))
	}
}

// There are 64, and no more, whatever becomes of them; a program below 0 is told ahead of that.
func TestP17_1StartFull(t *testing.T) {
	p := of(t, 64)
	for range 3 {
		p.start(t, 0, from(1))
		p.start(t, -1, from(1))
		p.holds(t, "full")
	}
	if id, e := p.b.Start(0, registers{}); id != 0 || e != api.ErrFull {
		t.Errorf("one more: %d %d", id, e)
	}
	if id, e := p.b.Start(-1, registers{}); id != 0 || e != api.ErrArg {
		t.Errorf("of -1: %d %d", id, e)
	}
	for id := range 64 {
		p.end(t, id, api.Fine)
	}
	p.start(t, 0, from(1))
	p.holds(t, "all ended")
}

// Get is one, and none of a number that is not there.
func TestP17_1Get(t *testing.T) {
	p := none(t)
	for n := range 4 {
		for _, id := range append(numbers(), n) {
			p.stands(t, "got", id)
		}
		p.start(t, n, from(n))
	}
}

// Put says where one is that is ready, and what its registers are.
func TestP17_1Put(t *testing.T) {
	p := of(t, 3)
	for _, pc := range numbers() {
		p.put(t, 1, pc, from(pc))
		p.holds(t, "put")
	}
	p.put(t, 0, 7, from(70))
	p.put(t, 2, 9, registers{})
	p.holds(t, "each")
	if x, _ := p.b.Get(0); x.PC != 7 || x.Regs != from(70) || x.State != api.Ready {
		t.Errorf("put: %v", x)
	}
}

// Put of who is not there, or not ready, is refused.
func TestP17_1PutRefused(t *testing.T) {
	p := of(t, 4)
	p.park(t, 1, receives(), true)
	p.end(t, 2, api.Full)
	for _, id := range append(numbers(), 4, 5) {
		p.put(t, id, 20, from(3))
		p.holds(t, "put")
	}
	for id, want := range []api.Errno{api.OK, api.ErrDone, api.ErrDone, api.OK, api.ErrNone} {
		if e := p.b.Put(id, 20, from(3)); e != want {
			t.Errorf("Put of %d: %d, not %d", id, e, want)
		}
	}
}

// Who parks is parked with its instruction, and ready no more.
func TestP17_1Park(t *testing.T) {
	for _, i := range []api.Instr{
		sends(), receives(), selects(), {Op: api.Send}, {Op: api.Recv}, {Op: api.Select},
		{Op: api.Send, A: 7, B: 7}, {Op: api.Recv, A: 7, B: 7, C: 7}, {Op: api.Select, A: 7, B: 7, C: 7, Default: true},
		{Op: api.Select, Cases: make([]api.Case, 16)}, {Op: api.Select, Cases: []api.Case{{Send: true, Chan: 7, Val: 7}}},
	} {
		p := of(t, 3)
		p.put(t, 1, 5, from(6))
		p.park(t, 1, i, true)
		p.holds(t, "parked")
		x, ok := p.b.Get(1)
		if want := (task.Task{Prog: 1, PC: 5, State: api.Parked, Regs: from(6), Instr: i}); !same(x, want) || !ok {
			t.Errorf("parked: %v %v", x, ok)
		}
		if l := p.b.Ready(); !slices.Equal(l, []int{0, 2}) {
			t.Errorf("ready: %v", l)
		}
		p.park(t, 0, i, true)
		p.park(t, 2, i, true)
		p.holds(t, "all parked")
		if l := p.b.Ready(); len(l) != 0 {
			t.Errorf("ready yet: %v", l)
		}
	}
}

// One parks at a Send, a Recv or a Select, and at nothing else.
func TestP17_1ParkOperations(t *testing.T) {
	p := of(t, 2)
	for op := -1; op <= 34; op++ {
		if op != api.Send && op != api.Recv && op != api.Select {
			p.park(t, 0, api.Instr{Op: op}, false)
			p.holds(t, "no wait")
		}
	}
	for _, op := range numbers() {
		if op != api.Select {
			p.park(t, 1, api.Instr{Op: op}, false)
		}
	}
	p.holds(t, "other numbers")
}

// One parks at no instruction that may not be.
func TestP17_1ParkWrong(t *testing.T) {
	p := of(t, 1)
	for _, n := range numbers() {
		if n >= 0 && n < 8 {
			continue
		}
		for _, i := range []api.Instr{
			{Op: api.Send, A: n}, {Op: api.Send, B: n}, {Op: api.Recv, A: n}, {Op: api.Recv, B: n}, {Op: api.Recv, C: n},
			{Op: api.Select, A: n}, {Op: api.Select, B: n}, {Op: api.Select, C: n},
			{Op: api.Select, Cases: []api.Case{{Chan: n}}}, {Op: api.Select, Cases: []api.Case{{}, {Send: true, Val: n}}},
		} {
			p.park(t, 0, i, false)
		}
	}
	for _, i := range []api.Instr{
		{Op: api.Send, C: 1}, {Op: api.Send, Default: true}, {Op: api.Recv, Default: true},
		{Op: api.Send, Cases: make([]api.Case, 1)}, {Op: api.Recv, Cases: make([]api.Case, 1)},
		{Op: api.Select, Cases: make([]api.Case, 17)}, {Op: api.Select, Cases: []api.Case{{Val: 1}}},
	} {
		p.park(t, 0, i, false)
	}
	p.holds(t, "wrong ones")
}

// Who is not there, or not ready, is told ahead of a wrong instruction.
func TestP17_1ParkRefused(t *testing.T) {
	p := of(t, 4)
	p.park(t, 1, receives(), true)
	p.end(t, 2, api.Full)
	for _, id := range append(numbers(), 4, 5) {
		if id != 0 && id != 3 {
			p.park(t, id, sends(), true)
		}
		p.park(t, id, api.Instr{}, false)
		p.park(t, id, api.Instr{Op: api.Send, A: 8}, false)
		p.holds(t, "refused")
	}
	for id, want := range []api.Errno{api.ErrArg, api.ErrDone, api.ErrDone, api.ErrArg, api.ErrNone} {
		if e := p.b.Park(id, api.Instr{}); e != want {
			t.Errorf("Park of %d: %d, not %d", id, e, want)
		}
	}
}

// Who sent is ready again, one further, with the registers that it had, behind all that are ready.
func TestP17_2WakeSend(t *testing.T) {
	p := of(t, 3)
	p.put(t, 0, 4, from(6))
	p.park(t, 0, sends(), true)
	p.wake(t, api.Wake{Task: 0, Case: 9, Value: 8, OK: true})
	p.holds(t, "woken")
	x, ok := p.b.Get(0)
	if want := (task.Task{PC: 5, State: api.Ready, Regs: from(6)}); !same(x, want) || !ok {
		t.Errorf("woken: %v %v", x, ok)
	}
	if l := p.b.Ready(); !slices.Equal(l, []int{1, 2, 0}) {
		t.Errorf("ready: %v", l)
	}
}

// Who received has the value, and whether it is one.
func TestP17_2WakeRecv(t *testing.T) {
	for _, is := range []bool{false, true} {
		for _, value := range numbers() {
			p := of(t, 2)
			p.put(t, 0, 4, from(60))
			p.park(t, 0, receives(), true)
			p.wake(t, api.Wake{Task: 0, Case: 9, Value: value, OK: is})
			p.holds(t, "woken")
			want := from(60)
			want[2], want[3] = value, 0
			if is {
				want[3] = 1
			}
			if x, _ := p.b.Get(0); !same(x, task.Task{PC: 5, Regs: want}) {
				t.Errorf("woken: %v", x)
			}
		}
	}
}

// Who selected has the case, and, if that receives, the value too.
func TestP17_2WakeSelect(t *testing.T) {
	for n, want := range []registers{
		{60, 61, 62, 63, 0, 8, 1, 67}, {60, 61, 62, 63, 1, 65, 66, 67},
		{60, 61, 62, 63, 2, 8, 1, 67}, {60, 61, 62, 63, 3, 65, 66, 67},
	} {
		p := of(t, 2)
		p.put(t, 0, 4, from(60))
		p.park(t, 0, selects(), true)
		p.wake(t, api.Wake{Task: 0, Case: n, Value: 8, OK: true})
		p.holds(t, "woken")
		if x, _ := p.b.Get(0); !same(x, task.Task{PC: 5, Regs: want}) {
			t.Errorf("case %d: %v", n, x)
		}
	}
}

// Of a closed channel there is no value; a case that is not there receives nothing.
func TestP17_2WakeSelectEdges(t *testing.T) {
	for _, is := range []bool{false, true} {
		for _, n := range append(numbers(), 4, 5) {
			p := of(t, 2)
			p.park(t, 0, selects(), true)
			p.wake(t, api.Wake{Task: 0, Case: n, Value: n, OK: is})
			p.holds(t, "woken")
		}
	}
	p := of(t, 1)
	p.park(t, 0, api.Instr{Op: api.Select, A: 1, B: 2, C: 3}, true)
	p.wake(t, api.Wake{Task: 0, Value: 9, OK: true})
	p.holds(t, "without a case")
}

// Of two registers that are one the later one stays.
func TestP17_2WakeOneRegister(t *testing.T) {
	w := api.Wake{Case: 2, Value: 8, OK: true}
	for _, c := range []struct {
		a, b, c int
		want    registers
	}{
		{0, 0, 0, registers{1}}, {0, 0, 1, registers{8, 1}}, {0, 1, 0, registers{1, 8}}, {1, 0, 0, registers{1, 2}},
		{0, 1, 2, registers{2, 8, 1}},
	} {
		p := none(t)
		p.start(t, 0, registers{})
		p.park(t, 0, api.Instr{Op: api.Select, A: c.a, B: c.b, C: c.c, Cases: make([]api.Case, 3)}, true)
		p.wake(t, w)
		p.holds(t, "a select")
		if x, _ := p.b.Get(0); x.Regs != c.want {
			t.Errorf("select %d %d %d: %v", c.a, c.b, c.c, x.Regs)
		}
	}
	p := none(t)
	p.start(t, 0, registers{})
	p.park(t, 0, api.Instr{Op: api.Recv, A: 5, B: 5, C: 5}, true)
	p.wake(t, w)
	if x, _ := p.b.Get(0); x.Regs != (registers{5: 1}) {
		t.Errorf("receive: %v", x.Regs)
	}
}

// Who sent on a channel that was closed ends so, where it is, with the registers that it had.
func TestP17_2WakePanic(t *testing.T) {
	for _, i := range []api.Instr{sends(), receives(), selects()} {
		p := of(t, 3)
		p.put(t, 1, 4, from(6))
		p.park(t, 1, i, true)
		p.wake(t, api.Wake{Task: 1, Value: 8, OK: true, Panic: true})
		p.holds(t, "ended")
		x, ok := p.b.Get(1)
		if want := (task.Task{Prog: 1, PC: 4, State: api.Ended, How: api.SendClosed, Regs: from(6)}); !same(x, want) || !ok {
			t.Errorf("ended: %v %v", x, ok)
		}
		if l := p.b.Ready(); !slices.Equal(l, []int{0, 2}) {
			t.Errorf("ready: %v", l)
		}
	}
}

// A wake of who is not there, or not parked, is refused.
func TestP17_2WakeRefused(t *testing.T) {
	p := of(t, 4)
	p.park(t, 1, receives(), true)
	p.end(t, 2, api.Full)
	p.park(t, 3, receives(), true)
	p.wake(t, api.Wake{Task: 3, Panic: true})
	for _, id := range append(numbers(), 4, 5) {
		if id != 1 {
			p.wake(t, api.Wake{Task: id, Value: 7, OK: true})
			p.wake(t, api.Wake{Task: id, Panic: true})
			p.holds(t, "refused")
		}
	}
	for id, want := range []api.Errno{api.ErrDone, api.OK, api.ErrDone, api.ErrDone, api.ErrNone} {
		if e := p.b.Wake(api.Wake{Task: id}); e != want {
			t.Errorf("Wake of %d: %d, not %d", id, e, want)
		}
	}
	p = of(t, 1)
	p.park(t, 0, sends(), true)
	p.wake(t, api.Wake{})
	p.wake(t, api.Wake{})
	p.holds(t, "twice")
}

// Who ends is ended, with how, and ready no more.
func TestP17_2End(t *testing.T) {
	for _, how := range numbers() {
		p := of(t, 4)
		p.put(t, 1, 4, from(6))
		p.end(t, 1, how)
		p.park(t, 2, selects(), true)
		p.end(t, 2, how)
		p.holds(t, "ended")
		x, ok := p.b.Get(1)
		if want := (task.Task{Prog: 1, PC: 4, State: api.Ended, How: how, Regs: from(6)}); !same(x, want) || !ok {
			t.Errorf("ended: %v %v", x, ok)
		}
		if l := p.b.Ready(); !slices.Equal(l, []int{0, 3}) {
			t.Errorf("ready: %v", l)
		}
	}
}

// An end of who is not there, or ended, is refused, and changes nothing.
func TestP17_2EndRefused(t *testing.T) {
	p := of(t, 5)
	p.park(t, 1, receives(), true)
	p.end(t, 2, api.Full)
	p.park(t, 3, sends(), true)
	p.wake(t, api.Wake{Task: 3, Panic: true})
	for _, id := range append(numbers(), 5, 6) {
		p.end(t, id, api.BadKind)
		p.holds(t, "end")
	}
	for _, id := range append(numbers(), 5, 6) {
		p.end(t, id, api.BadCap)
		p.holds(t, "end again")
	}
	if e := p.b.End(2, api.Fine); e != api.ErrDone {
		t.Errorf("End of an ended one: %d", e)
	}
	if e := p.b.End(5, api.Fine); e != api.ErrNone {
		t.Errorf("End of none: %d", e)
	}
}

// Pick is the one at n, modulo how many are ready, and it stays.
func TestP17_2Pick(t *testing.T) {
	p := none(t)
	for range 5 {
		for _, n := range numbers() {
			p.picks(t, "picked", n)
			p.picks(t, "picked again", n)
		}
		p.start(t, 0, registers{})
	}
	p.park(t, 1, sends(), true)
	p.end(t, 3, api.Fine)
	for _, n := range numbers() {
		p.picks(t, "some are not ready", n)
	}
	p.holds(t, "picked from")
}

// A nil table has nobody, and no room.
func TestP17_2Nil(t *testing.T) {
	var b *task.Table
	for _, n := range numbers() {
		want := api.ErrFull
		if n < 0 {
			want = api.ErrArg
		}
		if id, e := b.Start(n, from(1)); id != 0 || e != want {
			t.Errorf("Start(%d): %d %d", n, id, e)
		}
		if x, ok := b.Get(n); !same(x, task.Task{}) || ok {
			t.Errorf("Get(%d): %v %v", n, x, ok)
		}
		if e := b.Put(n, 0, registers{}); e != api.ErrNone {
			t.Errorf("Put(%d): %d", n, e)
		}
		if e := b.Park(n, sends()); e != api.ErrNone {
			t.Errorf("Park(%d): %d", n, e)
		}
		if e := b.Wake(api.Wake{Task: n, Panic: n%2 == 0}); e != api.ErrNone {
			t.Errorf("Wake(%d): %d", n, e)
		}
		if e := b.End(n, api.Fine); e != api.ErrNone {
			t.Errorf("End(%d): %d", n, e)
		}
		if id, ok := b.Pick(n); id != 0 || ok {
			t.Errorf("Pick(%d): %d %v", n, id, ok)
		}
	}
	if l, n := b.Ready(), b.Len(); len(l) != 0 || n != 0 {
		t.Errorf("Ready %v, Len %d", l, n)
	}
}

// A table that New did not make is one without anybody, and never panics.
func TestZeroTable(t *testing.T) {
	b := &task.Table{}
	if _, e := b.Start(-1, registers{}); e != api.ErrArg {
		t.Errorf("Start(-1): %d", e)
	}
	b.Start(0, registers{})
	for id := -1; id <= 1; id++ {
		b.Get(id)
		b.Put(id, 0, registers{})
		b.Park(id, sends())
		b.Wake(api.Wake{Task: id})
		b.End(id, api.Fine)
		b.Pick(id)
	}
	if len(b.Ready()) > b.Len() {
		t.Errorf("%v of %d are ready", b.Ready(), b.Len())
	}
}

// What is handed in is neither changed nor kept.
func TestP17_3HandedIn(t *testing.T) {
	p := of(t, 1)
	room := []api.Case{{Chan: 1}, {Send: true, Chan: 2, Val: 3}, {Chan: 6}}
	given := slices.Clone(room)
	i := api.Instr{Op: api.Select, Cases: room[:2]}
	p.b.Park(0, i)
	if !slices.Equal(room, given) {
		t.Errorf("changed: %v", room)
	}
	room[0].Chan = 5
	room[1].Send = false
	x, _ := p.b.Get(0)
	if !slices.Equal(x.Instr.Cases, given[:2]) {
		t.Errorf("kept: %v", x.Instr.Cases)
	}
	p.b.Wake(api.Wake{Task: 0, Case: 1, Value: 9, OK: true})
	if x, _ := p.b.Get(0); x.Regs != (registers{0: 1, 1: 1, 2: 2, 3: 3, 4: 4, 5: 5, 6: 6, 7: 7}) {
		t.Errorf("woken by what was changed: %v", x.Regs)
	}
}

// What is answered is new memory.
func TestP17_3NewMemory(t *testing.T) {
	p := of(t, 3)
	p.park(t, 0, selects(), true)
	for range 2 {
		x, _ := p.b.Get(0)
		for n := range x.Instr.Cases {
			x.Instr.Cases[n] = api.Case{Send: true, Chan: 77, Val: 77}
		}
		x.Instr.Cases = append(x.Instr.Cases, api.Case{})
		x.Regs[0]++
		for _, l := range [][]int{p.b.Ready(), p.b.Ready()} {
			clear(l)
			_ = append(l[:1], 9, 9, 9)
		}
		p.holds(t, "written over")
	}
	p.wake(t, api.Wake{Task: 0, Case: 0, Value: 9, OK: true})
	p.holds(t, "woken")
}

// What only asks, and what is refused, changes nothing that is told later.
func TestAskingChangesNothing(t *testing.T) {
	p := of(t, 4)
	p.park(t, 1, selects(), true)
	p.end(t, 2, api.BadCap)
	for range 3 {
		for _, n := range numbers() {
			p.picks(t, "asked", n)
			p.stands(t, "asked", n)
			p.start(t, min(n, -1), from(n))
			if n < 0 || n > 3 {
				p.put(t, n, 1, registers{})
				p.park(t, n, sends(), true)
				p.wake(t, api.Wake{Task: n})
				p.end(t, n, api.Fine)
			}
		}
		p.put(t, 1, 8, from(1))
		p.put(t, 2, 8, from(1))
		p.park(t, 0, api.Instr{}, false)
		p.park(t, 1, receives(), true)
		p.park(t, 2, receives(), true)
		p.wake(t, api.Wake{Task: 0})
		p.wake(t, api.Wake{Task: 2, Panic: true})
		p.end(t, 2, api.Fine)
		p.holds(t, "asked")
	}
}

// Two tables have nothing in common.
func TestTwoTables(t *testing.T) {
	a, b := of(t, 3), of(t, 2)
	a.park(t, 0, selects(), true)
	b.end(t, 1, api.Full)
	a.wake(t, api.Wake{Task: 0, Case: 1})
	b.put(t, 0, 6, from(9))
	b.start(t, 5, from(8))
	a.holds(t, "the one")
	b.holds(t, "the other one")
}

// step is one of all that is done with one of two tasks.
func (p *plain) step(t *testing.T, n int) {
	t.Helper()
	id := n % 2
	switch n / 2 {
	case 0:
		p.put(t, id, n, from(n))
	case 1:
		p.park(t, id, sends(), true)
	case 2:
		p.park(t, id, receives(), true)
	case 3:
		p.park(t, id, selects(), true)
	case 4:
		p.park(t, id, api.Instr{Op: api.Recv, A: -1}, false)
	case 5:
		p.wake(t, api.Wake{Task: id, Case: 2, Value: 50, OK: true})
	case 6:
		p.wake(t, api.Wake{Task: id, Case: 1})
	case 7:
		p.wake(t, api.Wake{Task: id, Panic: true})
	case 8:
		p.end(t, id, api.BadHandle)
	}
}

// Just those that are ready are ready: each row of four steps of two tasks.
func TestP17_3EachRow(t *testing.T) {
	const steps, long = 18, 4
	rows := 1
	for range long {
		rows *= steps
	}
	for row := range rows {
		p := of(t, 2)
		for n := row; n > 0; n /= steps {
			p.step(t, n%steps)
		}
		p.holds(t, "a row")
	}
}

// byChance is an instruction by chance, and whether one may park at it.
func byChance(r *rand.Rand) (api.Instr, bool) {
	reg := func() int { return r.Intn(8) }
	i := api.Instr{A: reg(), B: reg()}
	switch r.Intn(4) {
	case 0:
		i.Op = api.Send
	case 1:
		i.Op, i.C = api.Recv, reg()
	case 2:
		i.Op, i.C, i.Default = api.Select, reg(), r.Intn(2) == 0
		for range r.Intn(17) {
			c := api.Case{Send: r.Intn(2) == 0, Chan: reg()}
			if c.Send {
				c.Val = reg()
			}
			i.Cases = append(i.Cases, c)
		}
	default:
		i.Op = 1 + r.Intn(9)
		return i, false
	}
	return i, true
}

// Walks by chance, over tables that fill up.
func TestP17_3ByChance(t *testing.T) {
	r := rand.New(rand.NewSource(17))
	for range 300 {
		p := none(t)
		for range 300 {
			id := r.Intn(len(p.all)+2) - 1
			switch r.Intn(8) {
			case 0, 1:
				p.start(t, r.Intn(20)-1, from(r.Intn(100)))
			case 2, 3:
				p.put(t, id, r.Intn(101), from(r.Intn(100)))
			case 4, 5:
				i, mayBe := byChance(r)
				p.park(t, id, i, mayBe)
			case 6:
				p.wake(t, api.Wake{
					Task: id, Case: r.Intn(18) - 1, Value: r.Intn(100), OK: r.Intn(2) == 0, Panic: r.Intn(8) == 0,
				})
			case 7:
				if r.Intn(4) == 0 {
					p.end(t, id, r.Intn(9))
				}
			}
			p.picks(t, "by chance", r.Intn(200)-100)
			p.stands(t, "by chance", id)
		}
		p.holds(t, "by chance")
	}
}
