package prog_test

import (
	"math"
	"math/rand"
	"reflect"
	"slices"
	"strings"
	"testing"

	"tarpaulin/api"
	"tarpaulin/prog"
)

// operations are the names, in the order of their numbers, the first one being 1.
var operations = strings.Fields(`set move inc jump zero emit exit go make send recv close len cap select now
	newtimer ticker func stop reset cancels deadline timeout without cancel err cause done until after unafter`)

// fields is what the chapter says of the fields A, B and C: by what they may be, whose they are.
var fields = []map[string]string{
	{
		"place":    "jump",
		"register": "set move inc zero emit go make send recv close len cap select now newtimer ticker func stop reset cancels deadline timeout without cancel err cause done until after unafter",
	},
	{
		"register": "move send recv len cap select newtimer ticker func stop reset cancels deadline timeout without cancel err cause done until after unafter",
		"place":    "zero",
		"program":  "go",
		"number":   "set inc make",
	},
	{
		"register": "recv select newtimer ticker reset deadline timeout until",
		"program":  "func after",
	},
}

// uses is what each operation reads and writes, by its fields; a select's cases are read besides.
var uses = map[string]struct{ reads, writes string }{
	"set":      {"", "A"},
	"move":     {"B", "A"},
	"inc":      {"A", "A"},
	"jump":     {"", ""},
	"zero":     {"A", ""},
	"emit":     {"A", ""},
	"exit":     {"", ""},
	"go":       {"", "A"},
	"make":     {"", "A"},
	"send":     {"AB", ""},
	"recv":     {"A", "BC"},
	"close":    {"A", ""},
	"len":      {"A", "B"},
	"cap":      {"A", "B"},
	"select":   {"", "ABC"},
	"now":      {"", "A"},
	"newtimer": {"B", "AC"},
	"ticker":   {"B", "AC"},
	"func":     {"B", "A"},
	"stop":     {"A", "B"},
	"reset":    {"AB", "C"},
	"cancels":  {"B", "A"},
	"deadline": {"BC", "A"},
	"timeout":  {"BC", "A"},
	"without":  {"B", "A"},
	"cancel":   {"AB", ""},
	"err":      {"A", "B"},
	"cause":    {"A", "B"},
	"done":     {"A", "B"},
	"until":    {"A", "BC"},
	"after":    {"B", "A"},
	"unafter":  {"A", "B"},
}

// number is an operation's.
func number(name string) int { return slices.Index(operations, name) + 1 }

// kind is what that field (0, 1, 2: A, B, C) of an operation may be; empty of one that is 0.
func kind(name string, field int) string {
	for k, whose := range fields[field] {
		if slices.Contains(strings.Fields(whose), name) {
			return k
		}
	}
	return ""
}

// may tells whether a field of that kind may be n, of so many instructions and so many programs.
func may(kind string, n, instrs, progs int) bool {
	switch kind {
	case "number":
		return true
	case "register":
		return 0 <= n && n < 8
	case "place":
		return 0 <= n && n <= instrs
	case "program":
		return 0 <= n && n < progs
	}
	return n == 0
}

// with is i with that field n.
func with(i api.Instr, field, n int) api.Instr {
	*[]*int{&i.A, &i.B, &i.C}[field] = n
	return i
}

// instr is one of that name.
func instr(name string, a, b, c int) api.Instr {
	return api.Instr{Op: number(name), A: a, B: b, C: c}
}

// choose is a select of those cases.
func choose(l ...api.Case) api.Instr {
	return api.Instr{Op: api.Select, Cases: l}
}

// edges are numbers at which a limit or a width could go wrong.
func edges() []int {
	return []int{
		math.MinInt, math.MinInt + 1, math.MinInt32, -(1 << 32), -256, -128, -101, -100, -17, -16, -9, -8, -7, -2, -1,
		0, 1, 2, 3, 6, 7, 8, 9, 14, 15, 16, 17, 31, 32, 33, 63, 64, 98, 99, 100, 101, 102, 127, 128, 255, 256, 257, 263,
		65536, math.MaxInt32, 1 << 32, 1<<32 + 1, api.MaxTime, math.MaxInt - 1, math.MaxInt,
	}
}

// filled is a program of so many instructions, i the last one of them.
func filled(count int, i api.Instr) []api.Instr {
	return append(slices.Repeat([]api.Instr{{Op: api.Exit}}, count-1), i)
}

// errno is what a call should tell.
func errno(may bool) api.Errno {
	if may {
		return api.OK
	}
	return api.ErrArg
}

func TestP4_1OperationsOfTheDocument(t *testing.T) {
	if len(operations) != 32 || len(uses) != 32 {
		t.Fatalf("%d operations, %d uses", len(operations), len(uses))
	}
	for _, name := range operations {
		for field := range fields {
			of := 0
			for _, whose := range fields[field] {
				if slices.Contains(strings.Fields(whose), name) {
					of++
				}
			}
			if of > 1 {
				t.Errorf("field %d of %s is of %d kinds", field, name, of)
			}
		}
		if e := prog.Check([]api.Instr{instr(name, 0, 0, 0)}); e != api.OK {
			t.Errorf("%s, all fields 0: %d", name, e)
		}
	}
}

func TestP4_1CheckRefusesOtherOperations(t *testing.T) {
	for _, op := range edges() {
		want := errno(1 <= op && op <= 32)
		for _, p := range [][]api.Instr{{{Op: op}}, {{Op: api.Exit}, {Op: op}}, {{Op: op}, {Op: api.Exit}}} {
			if e := prog.Check(p); e != want {
				t.Errorf("%+v: %d, not %d", p, e, want)
			}
		}
	}
}

func TestP4_1CheckOfEachField(t *testing.T) {
	for _, name := range operations {
		for field := range fields {
			k := kind(name, field)
			for _, n := range edges() {
				i := with(instr(name, 0, 0, 0), field, n)
				for _, count := range []int{1, 2, 8, 99, 100} {
					want := errno(may(k, n, count, 16))
					if e := prog.Check(filled(count, i)); e != want {
						t.Errorf("%s, field %d is %d, the last of %d: %d, not %d", name, field, n, count, e, want)
					}
				}
			}
		}
	}
}

func TestP4_1CheckOfPlaces(t *testing.T) {
	for count := 1; count <= 100; count++ {
		for n := -1; n <= 102; n++ {
			want := errno(0 <= n && n <= count)
			for _, i := range []api.Instr{instr("jump", n, 0, 0), instr("zero", 7, n, 0)} {
				p := filled(count, i)
				if e := prog.Check(p); e != want {
					t.Errorf("%s to %d, the last of %d: %d, not %d", prog.Name(i.Op), n, count, e, want)
				}
				slices.Reverse(p)
				if e := prog.Check(p); e != want {
					t.Errorf("%s to %d, the first of %d: %d, not %d", prog.Name(i.Op), n, count, e, want)
				}
			}
		}
	}
}

func TestP4_1CheckTakesSoManyAndNoMore(t *testing.T) {
	for _, p := range [][]api.Instr{nil, {}} {
		if e := prog.Check(p); e != api.OK {
			t.Errorf("none: %d", e)
		}
	}
	for _, i := range []api.Instr{{Op: api.Exit}, {Op: api.Set, A: 7, B: math.MinInt}, choose()} {
		for _, count := range []int{1, 99, 100, 101, 102, 200, 356, 70_000} {
			want := errno(count <= 100)
			if e := prog.Check(slices.Repeat([]api.Instr{i}, count)); e != want {
				t.Errorf("%d of %+v: %d, not %d", count, i, e, want)
			}
		}
	}
}

func TestP4_1CheckLooksAtEach(t *testing.T) {
	for place := range 100 {
		p := filled(100, api.Instr{Op: api.Exit})
		p[place] = api.Instr{Op: api.Emit, A: 8}
		if e := prog.Check(p); e != api.ErrArg {
			t.Errorf("a wrong one at %d: %d", place, e)
		}
	}
}

func TestP4_1CheckOfCases(t *testing.T) {
	for _, n := range edges() {
		for _, c := range []struct {
			what string
			kase api.Case
			want bool
		}{
			{"a receive's Chan", api.Case{Chan: n}, may("register", n, 0, 0)},
			{"a send's Chan", api.Case{Send: true, Chan: n}, may("register", n, 0, 0)},
			{"a send's Val", api.Case{Send: true, Val: n}, may("register", n, 0, 0)},
			{"a receive's Val", api.Case{Val: n}, n == 0},
		} {
			for place := range 3 {
				l := slices.Insert([]api.Case{{Chan: 7}, {Send: true, Chan: 7, Val: 7}}, place, c.kase)
				for _, def := range []bool{false, true} {
					i := api.Instr{Op: api.Select, A: 7, B: 7, C: 7, Cases: l, Default: def}
					if e := prog.Check([]api.Instr{i}); e != errno(c.want) {
						t.Errorf("%s is %d, at %d, default %t: %d", c.what, n, place, def, e)
					}
				}
			}
		}
	}
}

func TestP4_1CheckTakesSoManyCasesAndNoMore(t *testing.T) {
	for _, one := range []api.Case{{}, {Chan: 7}, {Send: true, Chan: 7, Val: 7}} {
		for _, count := range []int{0, 1, 15, 16, 17, 18, 32, 272, 70_000} {
			l := slices.Repeat([]api.Case{one}, count)
			for _, def := range []bool{false, true} {
				i := api.Instr{Op: api.Select, Cases: l, Default: def}
				if e := prog.Check([]api.Instr{i}); e != errno(count <= 16) {
					t.Errorf("%d of %+v, default %t: %d", count, one, def, e)
				}
			}
		}
	}
}

func TestP4_1CasesAndDefaultOfSelectAlone(t *testing.T) {
	for _, name := range operations {
		want := errno(name == "select")
		for what, i := range map[string]api.Instr{
			"a case":       {Op: number(name), Cases: []api.Case{{}}},
			"a send":       {Op: number(name), Cases: []api.Case{{Send: true}}},
			"a default":    {Op: number(name), Default: true},
			"both of them": {Op: number(name), Cases: []api.Case{{}}, Default: true},
		} {
			if e := prog.Check([]api.Instr{i}); e != want {
				t.Errorf("%s with %s: %d, not %d", name, what, e, want)
			}
		}
		// An empty list is none.
		i := api.Instr{Op: number(name), Cases: []api.Case{}}
		if e := prog.Check([]api.Instr{i}); e != api.OK {
			t.Errorf("%s with no case: %d", name, e)
		}
	}
}

func TestP4_1AllTakesSoManyAndNoMore(t *testing.T) {
	for _, l := range [][][]api.Instr{nil, {}} {
		if e := prog.All(l); e != api.ErrArg {
			t.Errorf("none: %d", e)
		}
	}
	for _, p := range [][]api.Instr{nil, {}, {{Op: api.Exit}}} {
		for _, count := range []int{1, 2, 15, 16, 17, 18, 32, 272, 70_000} {
			if e := prog.All(slices.Repeat([][]api.Instr{p}, count)); e != errno(count <= 16) {
				t.Errorf("%d of %+v: %d", count, p, e)
			}
		}
	}
}

func TestP4_1AllRefusesWhatCheckRefuses(t *testing.T) {
	for _, wrong := range [][]api.Instr{
		{{}},
		{{Op: 33}},
		{{Op: api.Emit, A: 8}},
		{{Op: api.Jump, A: 2}},
		{{Op: api.Exit, B: 1}},
		{{Op: api.Exit, Default: true}},
		{choose(api.Case{Val: 1})},
		filled(101, api.Instr{Op: api.Exit}),
	} {
		for _, count := range []int{1, 2, 16} {
			for place := range count {
				l := slices.Repeat([][]api.Instr{{{Op: api.Exit}}}, count)
				l[place] = wrong
				if e := prog.All(l); e != api.ErrArg {
					t.Errorf("%d programs, a wrong one at %d: %d", count, place, e)
				}
			}
		}
	}
}

func TestP4_1AllKnowsWhichProgramsAreThere(t *testing.T) {
	for count := 1; count <= 16; count++ {
		for _, n := range edges() {
			for _, i := range []api.Instr{instr("go", 7, n, 0), instr("func", 7, 7, n), instr("after", 7, 7, n)} {
				for _, place := range []int{0, count / 2, count - 1} {
					l := slices.Repeat([][]api.Instr{{{Op: api.Exit}}}, count)
					l[place] = []api.Instr{{Op: api.Exit}, i, {Op: api.Exit}}
					if e := prog.All(l); e != errno(0 <= n && n < count) {
						t.Errorf("%s of program %d, in program %d of %d: %d", prog.Name(i.Op), n, place, count, e)
					}
				}
			}
		}
	}
}

func TestP4_1AllTakesRegistersBeyondItsPrograms(t *testing.T) {
	// Of one program alone: what is no program is not held against how many there are.
	p := []api.Instr{
		instr("set", 7, 99, 0), instr("jump", 5, 0, 0), instr("func", 7, 7, 0), instr("after", 7, 7, 0), instr("until", 7, 6, 5),
	}
	if e := prog.All([][]api.Instr{p}); e != api.OK {
		t.Errorf("%+v: %d", p, e)
	}
}

func TestP4_2Uses(t *testing.T) {
	for _, name := range operations {
		for _, r := range [][3]int{{6, 4, 2}, {2, 4, 6}, {4, 6, 2}, {0, 7, 3}, {7, 0, 1}, {5, 5, 5}, {0, 0, 0}, {7, 7, 7}, {3, 3, 1}, {3, 1, 3}, {1, 3, 3}} {
			i := api.Instr{Op: number(name)}
			for field, n := range r {
				if kind(name, field) != "" {
					i = with(i, field, n)
				}
			}
			named := func(letters string) []int {
				var l []int
				for _, letter := range letters {
					l = append(l, r[letter-'A'])
				}
				slices.Sort(l)
				return slices.Compact(l)
			}
			if got, want := prog.Reads(i), named(uses[name].reads); !slices.Equal(got, want) {
				t.Errorf("%+v, %s, reads %v, not %v", i, name, got, want)
			}
			if got, want := prog.Writes(i), named(uses[name].writes); !slices.Equal(got, want) {
				t.Errorf("%+v, %s, writes %v, not %v", i, name, got, want)
			}
		}
	}
}

func TestP4_2UsesOfSelect(t *testing.T) {
	recv := func(ch int) api.Case { return api.Case{Chan: ch} }
	send := func(ch, val int) api.Case { return api.Case{Send: true, Chan: ch, Val: val} }
	for _, c := range []struct {
		what  string
		cases []api.Case
		reads []int
	}{
		{"none", nil, nil},
		{"an empty list", []api.Case{}, nil},
		{"a receive", []api.Case{recv(5)}, []int{5}},
		{"a receive of register 0", []api.Case{recv(0)}, []int{0}},
		{"a send", []api.Case{send(5, 2)}, []int{2, 5}},
		{"a send of register 0", []api.Case{send(5, 0)}, []int{0, 5}},
		{"a send of one register on itself", []api.Case{send(7, 7)}, []int{7}},
		{"a receive's value is none", []api.Case{recv(6), recv(4)}, []int{4, 6}},
		{"several", []api.Case{recv(6), send(3, 5), recv(6), send(5, 1)}, []int{1, 3, 5, 6}},
		{"all", []api.Case{send(7, 6), send(5, 4), send(3, 2), send(1, 0)}, []int{0, 1, 2, 3, 4, 5, 6, 7}},
		{"as many as may be", slices.Repeat([]api.Case{send(6, 2)}, 16), []int{2, 6}},
	} {
		for _, def := range []bool{false, true} {
			i := api.Instr{Op: api.Select, A: 7, B: 3, C: 1, Cases: c.cases, Default: def}
			if got := prog.Reads(i); !slices.Equal(got, c.reads) {
				t.Errorf("%s, default %t: reads %v, not %v", c.what, def, got, c.reads)
			}
			if got := prog.Writes(i); !slices.Equal(got, []int{1, 3, 7}) {
				t.Errorf("%s, default %t: writes %v", c.what, def, got)
			}
		}
	}
}

func TestP4_2UsesOfWhatMayNotBe(t *testing.T) {
	for _, name := range operations {
		for field := range fields {
			for _, n := range edges() {
				i := with(instr(name, 0, 0, 0), field, n)
				fine := may(kind(name, field), n, 100, 16)
				if reads := prog.Reads(i); (len(reads) > 0) != (fine && uses[name].reads != "") {
					t.Errorf("%s, field %d is %d: reads %v", name, field, n, reads)
				}
				if writes := prog.Writes(i); (len(writes) > 0) != (fine && uses[name].writes != "") {
					t.Errorf("%s, field %d is %d: writes %v", name, field, n, writes)
				}
			}
		}
	}
	wrong := []api.Instr{
		{}, {Op: -1}, {Op: 33}, {Op: math.MinInt}, {Op: math.MaxInt}, {Op: 256 + api.Send}, {Op: 1<<32 + api.Send},
		{Op: api.Recv, Default: true}, {Op: api.Recv, Cases: []api.Case{{}}}, {Op: api.Move, Cases: []api.Case{{}}, Default: true},
		choose(api.Case{Chan: 8}), choose(api.Case{Chan: 1}, api.Case{Chan: -1}), choose(api.Case{Chan: 1, Val: 1}),
		choose(api.Case{Send: true, Val: 8}), choose(api.Case{Send: true, Val: -1}), choose(slices.Repeat([]api.Case{{Chan: 1}}, 17)...),
	}
	for _, i := range wrong {
		if reads, writes := prog.Reads(i), prog.Writes(i); len(reads) > 0 || len(writes) > 0 {
			t.Errorf("%+v: reads %v, writes %v", i, reads, writes)
		}
	}
}

func TestP4_2Name(t *testing.T) {
	for _, op := range edges() {
		want := ""
		if 1 <= op && op <= 32 {
			want = operations[op-1]
		}
		if got := prog.Name(op); got != want {
			t.Errorf("%d: %q, not %q", op, got, want)
		}
	}
	for op, want := range map[int]string{
		api.Set: "set", api.Move: "move", api.Inc: "inc", api.Jump: "jump", api.Zero: "zero", api.Emit: "emit", api.Exit: "exit", api.Go: "go",
		api.Make: "make", api.Send: "send", api.Recv: "recv", api.Close: "close", api.Len: "len", api.Cap: "cap", api.Select: "select",
		api.Now: "now", api.NewTimer: "newtimer", api.Ticker: "ticker", api.Func: "func", api.Stop: "stop", api.Reset: "reset",
		api.Cancels: "cancels", api.Deadline: "deadline", api.Timeout: "timeout", api.Without: "without", api.Cancel: "cancel",
		api.Err: "err", api.Cause: "cause", api.Done: "done", api.Until: "until", api.After: "after", api.Unafter: "unafter",
	} {
		if got := prog.Name(op); got != want {
			t.Errorf("%d: %q, not %q", op, got, want)
		}
	}
}

// byChance is an instruction that may be, most often.
func byChance(r *rand.Rand, instrs, progs int) api.Instr {
	i := api.Instr{Op: 1 + r.Intn(32)}
	value := func(k string) int {
		if r.Intn(60) == 0 {
			return edges()[r.Intn(len(edges()))]
		}
		switch k {
		case "register":
			return r.Intn(8)
		case "place":
			return r.Intn(instrs + 1)
		case "program":
			return r.Intn(progs)
		case "number":
			return int(r.Uint64())
		}
		return 0
	}
	for field := range fields {
		i = with(i, field, value(kind(operations[i.Op-1], field)))
	}
	if i.Op == api.Select || r.Intn(100) == 0 {
		i.Default = r.Intn(2) == 0
		for range r.Intn(18) {
			c := api.Case{Send: r.Intn(2) == 0, Chan: value("register")}
			if c.Send {
				c.Val = value("register")
			}
			i.Cases = append(i.Cases, c)
		}
	}
	return i
}

// fine tells whether an instruction may be among so many, of so many programs.
func fine(i api.Instr, instrs, progs int) bool {
	if i.Op < 1 || i.Op > 32 {
		return false
	}
	name := operations[i.Op-1]
	for field, n := range []int{i.A, i.B, i.C} {
		if !may(kind(name, field), n, instrs, progs) {
			return false
		}
	}
	if name != "select" {
		return len(i.Cases) == 0 && !i.Default
	}
	for _, c := range i.Cases {
		k := ""
		if c.Send {
			k = "register"
		}
		if !may("register", c.Chan, 0, 0) || !may(k, c.Val, 0, 0) {
			return false
		}
	}
	return len(i.Cases) <= 16
}

func TestP4_1ProgramsByChance(t *testing.T) {
	r := rand.New(rand.NewSource(4))
	count := map[api.Errno]int{}
	for range 5_000 {
		l := make([][]api.Instr, 1+r.Intn(4))
		all := true
		for k := range l {
			size := r.Intn(6)
			each := true
			for range size {
				l[k] = append(l[k], byChance(r, size, len(l)))
			}
			for _, i := range l[k] {
				each = each && fine(i, size, 16)
				all = all && fine(i, size, len(l))
			}
			if e := prog.Check(l[k]); e != errno(each) {
				t.Fatalf("%+v: %d", l[k], e)
			}
		}
		e := prog.All(l)
		if e != errno(all) {
			t.Fatalf("%+v: %d", l, e)
		}
		count[e]++
	}
	if count[api.OK] < 1_000 || count[api.ErrArg] < 1_000 {
		t.Errorf("how many of each: %v", count)
	}
}

// copied is an instruction that shares no memory with i, with the room behind its cases.
func copied(i api.Instr) api.Instr {
	whole := slices.Clone(i.Cases[:cap(i.Cases)])
	i.Cases = whole[:len(i.Cases)]
	return i
}

// roomy is a program with room behind it, and behind its cases.
func roomy() []api.Instr {
	cases := []api.Case{{Chan: 5}, {Send: true, Chan: 4, Val: 3}, {Chan: 99, Val: 98}, {Chan: 97, Val: 96}}
	p := []api.Instr{
		instr("set", 1, 2, 0), {Op: api.Select, A: 7, B: 6, C: 5, Cases: cases[:2], Default: true}, instr("zero", 1, 3, 0),
		{Op: 95, A: 94, B: 93, C: 92, Cases: cases[2:], Default: true}, {Op: 91},
	}
	return p[:3]
}

func TestP4_3HandedInIsNotChanged(t *testing.T) {
	p := roomy()
	var was []api.Instr
	for _, i := range p[:cap(p)] {
		was = append(was, copied(i))
	}
	same := func(what string) {
		t.Helper()
		for k, i := range p[:cap(p)] {
			now, then := i.Cases[:cap(i.Cases)], was[k].Cases[:cap(was[k].Cases)]
			if !slices.Equal(now, then) || !reflect.DeepEqual(copied(i), copied(was[k])) {
				t.Fatalf("%s: at %d %+v became %+v", what, k, was[k], i)
			}
		}
	}
	prog.Check(p)
	same("Check")
	prog.Check(p[:cap(p)])
	same("Check of a wrong one")
	l := [][]api.Instr{p, nil, {{Op: 90}}}
	prog.All(l[:2])
	same("All")
	if len(l[0]) != 3 || &l[0][0] != &p[0] || l[1] != nil || l[2][0].Op != 90 {
		t.Errorf("All: the list became %+v", l)
	}
	for _, i := range p[:cap(p)] {
		prog.Reads(i)
		prog.Writes(i)
	}
	same("Reads, Writes")
}

func TestP4_3AnsweredIsNewMemory(t *testing.T) {
	instrs := append(roomy(), instr("until", 7, 6, 5), instr("deadline", 7, 6, 5))
	for _, i := range instrs {
		for what, call := range map[string]func(api.Instr) []int{"Reads": prog.Reads, "Writes": prog.Writes} {
			want := slices.Clone(call(i))
			first, second := call(i), call(i)
			clear(first[:cap(first)])
			if !slices.Equal(second, want) || !slices.Equal(call(i), want) {
				t.Errorf("%s of %+v: %v became %v, then %v", what, i, want, second, call(i))
			}
		}
	}
}

func TestP4_3NothingIsKept(t *testing.T) {
	p := roomy()
	reads, writes := prog.Reads(p[1]), prog.Writes(p[1])
	if e := prog.All([][]api.Instr{p}); e != api.OK {
		t.Fatalf("%+v: %d", p, e)
	}
	p[1].Cases[0].Chan, p[1].Cases[1].Val = 1, 8
	if !slices.Equal(reads, []int{3, 4, 5}) || !slices.Equal(writes, []int{5, 6, 7}) {
		t.Errorf("what was answered became %v, %v", reads, writes)
	}
	if prog.Check(p) != api.ErrArg || prog.All([][]api.Instr{p}) != api.ErrArg || len(prog.Reads(p[1])) > 0 {
		t.Error("what stood there ahead is told")
	}
	p[1].Cases[1].Val = 2
	if prog.Check(p) != api.OK || prog.All([][]api.Instr{p}) != api.OK || !slices.Equal(prog.Reads(p[1]), []int{1, 2, 4}) {
		t.Error("what stands there now is not told")
	}
}
