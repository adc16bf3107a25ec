package local_test

import (
	"math"
	"math/big"
	"math/rand"
	"reflect"
	"slices"
	"testing"

	"tarpaulin/api"
	"tarpaulin/local"
)

type registers = [api.Regs]int

const top = api.MaxTime

// mine are the operations that the chapter names.
var mine = []int{api.Set, api.Move, api.Inc, api.Jump, api.Zero, api.Emit, api.Exit, api.Now}

// numbers are some at their edges.
func numbers() []int {
	return []int{
		math.MinInt, math.MinInt + 1, -top - 1, -top, -top + 1, -1<<32 - 1, -1 << 32, math.MinInt32, -101, -100, -8, -7, -2, -1,
		0, 1, 2, 3, 4, 6, 7, 8, 9, 15, 16, 17, 32, 33, 99, 100, 101, 127, 128, 255, 256, math.MaxInt32, 1<<32 - 1, 1 << 32,
		1<<32 + 1, top - 1, top, top + 1, math.MaxInt - 1, math.MaxInt,
	}
}

// from are registers that count on from n.
func from(n int) registers {
	var r registers
	for i := range r {
		r[i] = n + i
	}
	return r
}

// set is r with register n as v.
func set(r registers, n, v int) registers {
	r[n] = v
	return r
}

// filled is a program of so many instructions, i the one at pc.
func filled(count, pc int, i api.Instr) []api.Instr {
	p := slices.Repeat([]api.Instr{{Op: api.Close}}, count)
	p[pc] = i
	return p
}

// held is the sum of two numbers, each of them held, and it too.
func held(a, b int) int {
	hold := func(x *big.Int) *big.Int {
		most, least := big.NewInt(top), big.NewInt(-top)
		switch {
		case x.Cmp(most) > 0:
			return most
		case x.Cmp(least) < 0:
			return least
		}
		return x
	}
	sum := new(big.Int).Add(hold(big.NewInt(int64(a))), hold(big.NewInt(int64(b))))
	return int(hold(sum).Int64())
}

// does fails unless Do answers so.
func does(t *testing.T, p []api.Instr, pc int, regs registers, now int, want local.Out) {
	t.Helper()
	if got, e := local.Do(p, pc, regs, now); got != want || e != api.OK {
		t.Fatalf("at %d of %+v, %v, now %d: %+v %d, not %+v", pc, p, regs, now, got, e, want)
	}
}

// refuses fails unless Do answers that error, and nothing beside it.
func refuses(t *testing.T, p []api.Instr, pc int, regs registers, want api.Errno) {
	t.Helper()
	if got, e := local.Do(p, pc, regs, 77); got != (local.Out{}) || e != want {
		t.Fatalf("at %d of %+v: %+v %d, not %d", pc, p, got, e, want)
	}
}

func TestP18Example(t *testing.T) {
	p := []api.Instr{{Op: api.Zero, A: 2, B: 3}, {Op: api.Exit}, {Op: api.Exit}}
	does(t, p, 0, set(from(5), 2, 0), 9, local.Out{PC: 3, Regs: set(from(5), 2, 0)})
}

func TestP18_1Mine(t *testing.T) {
	for op := -100; op <= 300; op++ {
		if got, want := local.Mine(op), slices.Contains(mine, op); got != want {
			t.Errorf("%d: %t", op, got)
		}
	}
	for _, op := range numbers() {
		if got, want := local.Mine(op), slices.Contains(mine, op); got != want {
			t.Errorf("%d: %t", op, got)
		}
	}
}

// One of each, as the chapter says it.
func TestP18_1Each(t *testing.T) {
	regs := registers{10, 11, 0, 13, 14, 15, 16, 17}
	for _, c := range []struct {
		i    api.Instr
		want local.Out
	}{
		{api.Instr{Op: api.Set, A: 1, B: -6}, local.Out{PC: 3, Regs: set(regs, 1, -6)}},
		{api.Instr{Op: api.Move, A: 1, B: 7}, local.Out{PC: 3, Regs: set(regs, 1, 17)}},
		{api.Instr{Op: api.Move, A: 7, B: 1}, local.Out{PC: 3, Regs: set(regs, 7, 11)}},
		{api.Instr{Op: api.Inc, A: 3, B: 4}, local.Out{PC: 3, Regs: set(regs, 3, 17)}},
		{api.Instr{Op: api.Inc, A: 3, B: -20}, local.Out{PC: 3, Regs: set(regs, 3, -7)}},
		{api.Instr{Op: api.Jump, A: 0}, local.Out{PC: 0, Regs: regs}},
		{api.Instr{Op: api.Jump, A: 4}, local.Out{PC: 4, Regs: regs}},
		{api.Instr{Op: api.Zero, A: 2, B: 1}, local.Out{PC: 1, Regs: regs}},
		{api.Instr{Op: api.Zero, A: 1, B: 1}, local.Out{PC: 3, Regs: regs}},
		{api.Instr{Op: api.Emit, A: 6}, local.Out{PC: 3, Regs: regs, Told: true, Value: 16}},
		{api.Instr{Op: api.Exit}, local.Out{PC: 2, Regs: regs, Ended: true}},
		{api.Instr{Op: api.Now, A: 5}, local.Out{PC: 3, Regs: set(regs, 5, 99)}},
	} {
		does(t, filled(5, 2, c.i), 2, regs, 99, c.want)
	}
}

func TestP18_1SetAndMove(t *testing.T) {
	for a := range api.Regs {
		for _, n := range numbers() {
			does(t, []api.Instr{{Op: api.Set, A: a, B: n}}, 0, from(50), 9, local.Out{PC: 1, Regs: set(from(50), a, n)})
			for b := range api.Regs {
				regs := set(from(50), b, n)
				p := []api.Instr{{Op: api.Move, A: a, B: b}}
				does(t, p, 0, regs, 9, local.Out{PC: 1, Regs: set(regs, a, n)})
			}
		}
	}
}

// What is beyond the times counts as their end, also where nothing is added.
func TestP18_1IncIsHeld(t *testing.T) {
	for _, c := range []struct{ was, by, is int }{
		{3, 4, 7},
		{3, -4, -1},
		{top, 1, top},
		{top - 1, 1, top},
		{-top, -1, -top},
		{1 - top, -1, -top},
		{top, -1, top - 1},
		{top + 1, 0, top},
		{math.MaxInt, 0, top},
		{math.MinInt, 0, -top},
		{math.MaxInt, math.MaxInt, top},
		{math.MinInt, math.MinInt, -top},
		{math.MaxInt, math.MinInt, 0},
		{0, math.MaxInt, top},
		{0, math.MinInt, -top},
		{math.MaxInt, -1, top - 1},
	} {
		does(t, []api.Instr{{Op: api.Inc, A: 4, B: c.by}}, 0, set(from(50), 4, c.was), 9, local.Out{PC: 1, Regs: set(from(50), 4, c.is)})
	}
	for a := range api.Regs {
		for _, was := range numbers() {
			for _, by := range numbers() {
				p := []api.Instr{{Op: api.Inc, A: a, B: by}}
				does(t, p, 0, set(from(50), a, was), 9, local.Out{PC: 1, Regs: set(from(50), a, held(was, by))})
			}
		}
	}
}

// The now that is handed in is told as it is.
func TestP18_1Now(t *testing.T) {
	for a := range api.Regs {
		for _, now := range numbers() {
			does(t, []api.Instr{{Op: api.Now, A: a}}, 0, from(50), now, local.Out{PC: 1, Regs: set(from(50), a, now)})
		}
	}
}

func TestP18_1Emit(t *testing.T) {
	for a := range api.Regs {
		for _, n := range numbers() {
			regs := set(from(50), a, n)
			does(t, []api.Instr{{Op: api.Emit, A: a}}, 0, regs, 9, local.Out{PC: 1, Regs: regs, Told: true, Value: n})
		}
	}
}

// From each place to each, the one behind the last, and its own, among them: none of these ends it yet.
func TestP18_1Jumps(t *testing.T) {
	for _, count := range []int{1, 2, 5, 9, 99, 100} {
		for pc := range count {
			for to := range count + 1 {
				does(t, filled(count, pc, api.Instr{Op: api.Jump, A: to}), pc, from(0), 9, local.Out{PC: to, Regs: from(0)})
				p := filled(count, pc, api.Instr{Op: api.Zero, A: 3, B: to})
				does(t, p, pc, set(from(50), 3, 0), 9, local.Out{PC: to, Regs: set(from(50), 3, 0)})
				does(t, p, pc, set(registers{}, 3, 1), 9, local.Out{PC: pc + 1, Regs: set(registers{}, 3, 1)})
			}
		}
	}
}

// A jump asks no register; Zero asks its own, and that is 0 alone.
func TestP18_1ZeroOfEachRegister(t *testing.T) {
	for a := range api.Regs {
		p := filled(10, 2, api.Instr{Op: api.Zero, A: a, B: 9})
		for _, n := range numbers() {
			for _, others := range []registers{{}, from(50)} {
				regs := set(others, a, n)
				to := 3
				if n == 0 {
					to = 9
				}
				does(t, p, 2, regs, 9, local.Out{PC: to, Regs: regs})
			}
		}
		for _, regs := range []registers{{}, from(50), set(from(50), a, 0), set(registers{}, a, 1)} {
			does(t, filled(10, 8, api.Instr{Op: api.Jump, A: a}), 8, regs, 9, local.Out{PC: a, Regs: regs})
		}
	}
}

// One further at each place, but for a jump, and Exit stays where it was.
func TestP18_1Places(t *testing.T) {
	for count := 1; count <= 100; count++ {
		for pc := range count {
			for _, c := range []struct {
				i    api.Instr
				want local.Out
			}{
				{api.Instr{Op: api.Set, A: 1, B: 8}, local.Out{PC: pc + 1, Regs: set(from(50), 1, 8)}},
				{api.Instr{Op: api.Move, A: 1, B: 2}, local.Out{PC: pc + 1, Regs: set(from(50), 1, 52)}},
				{api.Instr{Op: api.Inc, A: 1, B: 8}, local.Out{PC: pc + 1, Regs: set(from(50), 1, 59)}},
				{api.Instr{Op: api.Zero, A: 1}, local.Out{PC: pc + 1, Regs: from(50)}},
				{api.Instr{Op: api.Emit, A: 1}, local.Out{PC: pc + 1, Regs: from(50), Told: true, Value: 51}},
				{api.Instr{Op: api.Exit}, local.Out{PC: pc, Regs: from(50), Ended: true}},
				{api.Instr{Op: api.Now, A: 1}, local.Out{PC: pc + 1, Regs: set(from(50), 1, 9)}},
			} {
				does(t, filled(count, pc, c.i), pc, from(50), 9, c.want)
			}
		}
	}
}

// Behind the last instruction, and only there, it is at its end, whatever stands ahead.
func TestP18_1AtTheEnd(t *testing.T) {
	for _, regs := range []registers{{}, from(50), from(math.MinInt)} {
		does(t, nil, 0, regs, 9, local.Out{Regs: regs, Ended: true})
		does(t, []api.Instr{}, 0, regs, 9, local.Out{Regs: regs, Ended: true})
		for count := 1; count <= 100; count++ {
			for _, op := range []int{api.Emit, api.Jump, api.Exit, api.Now, api.Select} {
				p := slices.Repeat([]api.Instr{{Op: op}}, count)
				does(t, p, count, regs, 9, local.Out{PC: count, Regs: regs, Ended: true})
			}
		}
	}
}

func TestP18_1WrongPlaces(t *testing.T) {
	for _, p := range [][]api.Instr{nil, filled(1, 0, api.Instr{Op: api.Exit}), filled(7, 6, api.Instr{Op: api.Now}), filled(100, 3, api.Instr{})} {
		for _, pc := range append(numbers(), len(p)+1, len(p)+2) {
			if pc < 0 || pc > len(p) {
				refuses(t, p, pc, from(50), api.ErrArg)
			}
		}
	}
	roomy := slices.Repeat([]api.Instr{{Op: api.Exit}}, 9)
	refuses(t, roomy[:4], 5, from(50), api.ErrArg)
}

// wrong are instructions that may not be, in a program of one, or of so many.
func wrong(count int) []api.Instr {
	l := []api.Instr{
		{}, {Op: -1}, {Op: 33}, {Op: math.MinInt}, {Op: math.MaxInt}, {Op: 256 + api.Exit}, {Op: 1<<32 + api.Emit},
		{Op: api.Jump, A: count + 1}, {Op: api.Jump, A: -1}, {Op: api.Zero, B: count + 1}, {Op: api.Zero, B: -1},
		{Op: api.Jump, B: 1}, {Op: api.Emit, B: 1}, {Op: api.Exit, A: 1}, {Op: api.Exit, B: 1}, {Op: api.Now, B: 1},
		{Op: api.Move, B: 8}, {Op: api.Move, B: -1}, {Op: api.Send, C: 1}, {Op: api.Go, B: 16},
		{Op: api.Select, Cases: make([]api.Case, 17)}, {Op: api.Select, Cases: []api.Case{{Val: 1}}},
	}
	for _, op := range mine {
		l = append(l, api.Instr{Op: op, C: 1}, api.Instr{Op: op, Default: true}, api.Instr{Op: op, Cases: make([]api.Case, 1)})
	}
	for _, op := range []int{api.Set, api.Move, api.Inc, api.Zero, api.Emit, api.Now, api.Recv} {
		l = append(l, api.Instr{Op: op, A: 8}, api.Instr{Op: op, A: -1}, api.Instr{Op: op, A: math.MaxInt})
	}
	return l
}

// A program that may not be is refused at each of its places, also where another instruction is the wrong one.
func TestP18_1WrongPrograms(t *testing.T) {
	for _, count := range []int{1, 2, 5, 100} {
		for _, i := range wrong(count) {
			for _, at := range []int{0, count / 2, count - 1} {
				for _, op := range []int{api.Exit, api.Now, api.Close} {
					p := slices.Repeat([]api.Instr{{Op: op}}, count)
					p[at] = i
					for pc := -1; pc <= count+1; pc++ {
						refuses(t, p, pc, from(50), api.ErrArg)
					}
				}
			}
		}
	}
}

func TestP18_1ProgramsThatAreTooLong(t *testing.T) {
	for _, op := range []int{api.Exit, api.Now, api.Close} {
		for _, count := range []int{101, 102, 200, 356} {
			p := slices.Repeat([]api.Instr{{Op: op}}, count)
			for pc := -1; pc <= count+1; pc++ {
				refuses(t, p, pc, from(50), api.ErrArg)
			}
		}
	}
	most := slices.Repeat([]api.Instr{{Op: api.Now}}, 100)
	does(t, most, 99, from(50), 9, local.Out{PC: 100, Regs: set(from(50), 0, 9)})
	does(t, most, 100, from(50), 9, local.Out{PC: 100, Regs: from(50), Ended: true})
}

// An instruction that concerns others is refused where it stands, and hinders none beside it.
func TestP18_1OthersInstructions(t *testing.T) {
	for op := 1; op <= 32; op++ {
		if slices.Contains(mine, op) {
			continue
		}
		for _, i := range []api.Instr{{Op: op}, {Op: op, A: 7}} {
			for pc := range 3 {
				p := slices.Repeat([]api.Instr{{Op: api.Emit, A: 4}}, 3)
				p[pc] = i
				refuses(t, p, pc, from(50), api.ErrKind)
				refuses(t, p, pc, registers{}, api.ErrKind)
				for other := range 3 {
					if other != pc {
						does(t, p, other, from(50), 9, local.Out{PC: other + 1, Regs: from(50), Told: true, Value: 54})
					}
				}
				does(t, p, 3, from(50), 9, local.Out{PC: 3, Regs: from(50), Ended: true})
			}
		}
	}
}

// A program may name any that there could be, and all that an instruction may have.
func TestP18_1OthersInstructionsWithAllFields(t *testing.T) {
	cases := slices.Repeat([]api.Case{{Send: true, Chan: 7, Val: 7}}, 16)
	for _, i := range []api.Instr{
		{Op: api.Go, A: 7, B: 15}, {Op: api.Func, A: 7, B: 7, C: 15}, {Op: api.After, A: 7, B: 7, C: 15},
		{Op: api.Make, A: 7, B: math.MinInt}, {Op: api.Until, A: 1, B: 2, C: 3},
		{Op: api.Select, A: 1, B: 2, C: 3, Cases: cases, Default: true},
	} {
		p := []api.Instr{{Op: api.Now, A: 1}, i}
		does(t, p, 0, from(50), 9, local.Out{PC: 1, Regs: set(from(50), 1, 9)})
		refuses(t, p, 1, from(50), api.ErrKind)
		does(t, p, 2, from(50), 9, local.Out{PC: 2, Regs: from(50), Ended: true})
	}
}

// A program that counts down, told from its beginning to its end.
func TestP18_1Run(t *testing.T) {
	p := []api.Instr{
		{Op: api.Set, A: 1, B: 3},
		{Op: api.Zero, A: 1, B: 6},
		{Op: api.Emit, A: 1},
		{Op: api.Inc, A: 1, B: -1},
		{Op: api.Jump, A: 1},
		{Op: api.Exit},
		{Op: api.Now, A: 2},
		{Op: api.Move, A: 3, B: 2},
		{Op: api.Emit, A: 3},
	}
	var told, places []int
	out := local.Out{}
	for now := 0; !out.Ended; now++ {
		if now > 100 {
			t.Fatal("it never ends")
		}
		var e api.Errno
		out, e = local.Do(p, out.PC, out.Regs, now)
		if e != api.OK {
			t.Fatalf("refused: %d", e)
		}
		places = append(places, out.PC)
		if out.Told {
			told = append(told, out.Value)
		}
	}
	if want := []int{3, 2, 1, 14}; !slices.Equal(told, want) {
		t.Errorf("told %v, not %v", told, want)
	}
	if want := []int{1, 2, 3, 4, 1, 2, 3, 4, 1, 2, 3, 4, 1, 6, 7, 8, 9, 9}; !slices.Equal(places, want) {
		t.Errorf("places %v, not %v", places, want)
	}
	if out.Regs != (registers{2: 14, 3: 14}) {
		t.Errorf("registers %v", out.Regs)
	}
}

// copied is a program that shares no memory with p, with the room behind it, and behind its cases.
func copied(p []api.Instr) []api.Instr {
	whole := slices.Clone(p[:cap(p)])
	for k, i := range whole {
		cases := slices.Clone(i.Cases[:cap(i.Cases)])
		whole[k].Cases = cases[:len(i.Cases):len(cases)]
	}
	return whole
}

// roomy is a program with room behind it, and behind its cases.
func roomy() []api.Instr {
	cases := []api.Case{{Chan: 5}, {Send: true, Chan: 4, Val: 3}, {Chan: 99, Val: 98}, {Chan: 97, Val: 96}}
	p := []api.Instr{
		{Op: api.Set, A: 1, B: 4}, {Op: api.Select, A: 7, B: 6, C: 5, Cases: cases[:2], Default: true}, {Op: api.Inc, A: 1, B: 3},
		{Op: api.Zero, A: 1, B: 5}, {Op: api.Emit, A: 1}, {Op: 95, A: 94, Cases: cases[2:], Default: true}, {Op: 91},
	}
	return p[:5]
}

func TestP18_2HandedInIsNotChanged(t *testing.T) {
	for _, p := range [][]api.Instr{roomy(), roomy()[:7]} {
		was := copied(p)
		wasRegs := from(0)
		regs := wasRegs
		for pc := -1; pc <= len(p)+1; pc++ {
			local.Do(p, pc, regs, 9)
			now := copied(p)
			if !reflect.DeepEqual(now, was) || regs != wasRegs {
				t.Fatalf("at %d: %+v, %v became %+v, %v", pc, was, wasRegs, now, regs)
			}
			for k := range now {
				got, want := now[k].Cases[:cap(now[k].Cases)], was[k].Cases[:cap(was[k].Cases)]
				if !slices.Equal(got, want) {
					t.Fatalf("at %d: cases %+v became %+v", pc, want, got)
				}
			}
		}
	}
}

func TestP18_2NothingIsKept(t *testing.T) {
	p, regs := roomy(), from(50)
	first, _ := local.Do(p, 0, regs, 9)
	p[0].B, regs[0] = 6, -1
	if want := (local.Out{PC: 1, Regs: set(from(50), 1, 4)}); first != want {
		t.Errorf("what was answered became %+v", first)
	}
	does(t, p, 0, regs, 9, local.Out{PC: 1, Regs: set(regs, 1, 6)})
	p[0] = api.Instr{Op: api.Now, A: 2}
	does(t, p, 0, regs, 31, local.Out{PC: 1, Regs: set(regs, 2, 31)})
	p[4].A = 8
	refuses(t, p, 0, regs, api.ErrArg)
	p[4].A = 7
	does(t, p, 4, regs, 31, local.Out{PC: 5, Regs: regs, Told: true, Value: 57})
}

// reading is what an instruction that may be does, read word by word.
func reading(p []api.Instr, pc int, regs registers, now int) (local.Out, api.Errno) {
	if pc == len(p) {
		return local.Out{PC: pc, Regs: regs, Ended: true}, api.OK
	}
	i := p[pc]
	a := &regs[i.A%8]
	out := local.Out{PC: pc + 1}
	switch {
	case !slices.Contains(mine, i.Op):
		return local.Out{}, api.ErrKind
	case i.Op == api.Set:
		*a = i.B
	case i.Op == api.Move:
		*a = regs[i.B]
	case i.Op == api.Inc:
		*a = held(*a, i.B)
	case i.Op == api.Now:
		*a = now
	case i.Op == api.Emit:
		out.Told, out.Value = true, *a
	case i.Op == api.Exit:
		out.PC, out.Ended = pc, true
	case i.Op == api.Jump:
		out.PC = i.A
	case i.Op == api.Zero && *a == 0:
		out.PC = i.B
	}
	out.Regs = regs
	return out, api.OK
}

// byChance is an instruction that may be, in a program of so many.
func byChance(r *rand.Rand, count int) api.Instr {
	number := func() int {
		if r.Intn(2) == 0 {
			return r.Intn(7) - 3
		}
		return numbers()[r.Intn(len(numbers()))]
	}
	reg, place := r.Intn(8), r.Intn(count+1)
	switch op := append(mine, api.Recv, api.Go)[r.Intn(10)]; op {
	case api.Set, api.Inc:
		return api.Instr{Op: op, A: reg, B: number()}
	case api.Move:
		return api.Instr{Op: op, A: reg, B: r.Intn(8)}
	case api.Jump:
		return api.Instr{Op: op, A: place}
	case api.Zero:
		return api.Instr{Op: op, A: reg, B: place}
	case api.Exit:
		return api.Instr{Op: op}
	default:
		return api.Instr{Op: op, A: reg}
	}
}

// Programs by chance, each done from its beginning on, against what the chapter says.
func TestP18_1ByChance(t *testing.T) {
	r := rand.New(rand.NewSource(18))
	for range 4_000 {
		p := make([]api.Instr, r.Intn(13))
		for k := range p {
			p[k] = byChance(r, len(p))
		}
		var at local.Out
		for now := range 60 {
			want, wantE := reading(p, at.PC, at.Regs, now)
			for range 2 {
				if got, e := local.Do(p, at.PC, at.Regs, now); got != want || e != wantE {
					t.Fatalf("at %d of %+v, %v, now %d: %+v %d, not %+v %d", at.PC, p, at.Regs, now, got, e, want, wantE)
				}
			}
			if wantE != api.OK || want.Ended {
				break
			}
			at = want
		}
	}
}
