package deal_test

import (
	"maps"
	"math"
	"math/big"
	"math/rand"
	"slices"
	"testing"

	"tarpaulin/api"
	"tarpaulin/chanq"
	"tarpaulin/deal"
)

// numbers are some at their edges.
func numbers() []int {
	return []int{
		math.MinInt, math.MinInt + 1, -api.MaxTime - 1, -api.MaxTime, -1<<32 - 1, -1 << 32, -1<<32 + 1, math.MinInt32,
		-65, -64, -3, -2, -1, 0, 1, 2, 3, 63, 64, 65, 127, 128, 255, 256, 1000, 1 << 16, math.MaxInt32, 1<<32 - 2,
		1<<32 - 1, 1 << 32, 1<<32 + 1, api.MaxTime - 1, api.MaxTime, api.MaxTime + 1, math.MaxInt - 1, math.MaxInt,
	}
}

// sent and got are a value that went through a channel.
func sent(ch, v int) deal.Deal { return deal.Deal{Chan: ch, Task: 1, Value: v, At: 7} }
func got(ch, v int) deal.Deal  { return deal.Deal{Chan: ch, Task: 2, Value: v, Got: true, At: 7} }

// values is those of one channel that are got, or are not, read from a plain list.
func values(l []deal.Deal, ch int, got bool) []int {
	var all []int
	for _, d := range l {
		if d.Chan == ch && d.Got == got {
			all = append(all, d.Value)
		}
	}
	return all
}

// begins tells whether b begins with a, value by value.
func begins(a, b []int) bool {
	for i, v := range a {
		if i == len(b) || b[i] != v {
			return false
		}
	}
	return true
}

// left is what a plain list has left of one channel.
func left(l []deal.Deal, ch int) []int {
	s, g := values(l, ch, false), values(l, ch, true)
	if !begins(g, s) {
		return nil
	}
	return s[len(g):]
}

// sound is what the chapter says of a plain list, word by word: each channel at each place of it.
func sound(l []deal.Deal, caps map[int]int) bool {
	for k, d := range l {
		s, g := values(l[:k+1], d.Chan, false), values(l[:k+1], d.Chan, true)
		most := big.NewInt(int64(caps[d.Chan]))
		if !d.Got {
			most.Add(most, big.NewInt(1))
		}
		if !begins(g, s) || most.Cmp(big.NewInt(int64(len(s)-len(g)))) < 0 {
			return false
		}
	}
	return true
}

// plain is a log, and beside it the same in a plain list.
type plain struct {
	log *deal.Log
	all []deal.Deal
}

// none is a new log.
func none(t *testing.T) *plain {
	t.Helper()
	log := deal.New()
	if log == nil {
		t.Fatal("New: none")
	}
	return &plain{log: log}
}

// of is a log of these.
func of(t *testing.T, l ...deal.Deal) *plain {
	t.Helper()
	p := none(t)
	for _, d := range l {
		p.add(t, d)
	}
	return p
}

// add adds one, to both.
func (p *plain) add(t *testing.T, d deal.Deal) {
	t.Helper()
	want := api.ErrArg
	if d.Chan >= 0 && d.Task >= -1 {
		want = api.OK
		p.all = append(p.all, d)
	}
	if e := p.log.Add(d); e != want {
		t.Fatalf("Add(%+v): %d, not %d", d, e, want)
	}
}

// holds fails where a log is not what the plain list is, of each of its channels and of these beside them.
func (p *plain) holds(t *testing.T, beside ...int) {
	t.Helper()
	if all := p.log.All(); !slices.Equal(all, p.all) {
		t.Fatalf("All: %+v, not %+v", all, p.all)
	}
	for _, d := range p.all {
		beside = append(beside, d.Chan)
	}
	slices.Sort(beside)
	for _, ch := range slices.Compact(beside) {
		if l, want := p.log.Sent(ch), values(p.all, ch, false); !slices.Equal(l, want) {
			t.Fatalf("Sent(%d) of %+v: %v, not %v", ch, p.all, l, want)
		}
		if l, want := p.log.Got(ch), values(p.all, ch, true); !slices.Equal(l, want) {
			t.Fatalf("Got(%d) of %+v: %v, not %v", ch, p.all, l, want)
		}
		if l, want := p.log.Left(ch), left(p.all, ch); !slices.Equal(l, want) {
			t.Fatalf("Left(%d) of %+v: %v, not %v", ch, p.all, l, want)
		}
	}
}

// eachRow goes through each row of up to n of these deals, the shorter ones first.
func eachRow(n int, of []deal.Deal, do func(l []deal.Deal)) {
	rows := [][]deal.Deal{nil}
	for range n + 1 {
		var longer [][]deal.Deal
		for _, l := range rows {
			do(l)
			for _, d := range of {
				longer = append(longer, append(slices.Clone(l), d))
			}
		}
		rows = longer
	}
}

// two is each deal of two values through two channels.
func two() []deal.Deal {
	var l []deal.Deal
	for ch := range 2 {
		for v := range 2 {
			l = append(l, sent(ch, v), got(ch, v))
		}
	}
	return l
}

func TestP19Example(t *testing.T) {
	p := of(t, sent(0, 1), sent(0, 2), got(0, 1))
	if l := p.log.Left(0); !slices.Equal(l, []int{2}) {
		t.Errorf("left %v, not 2", l)
	}
}

func TestP19_1New(t *testing.T) {
	none(t).holds(t, numbers()...)
}

// A Chan below 0, or a Task below -1, or both: and what is refused changes nothing.
func TestP19_1AddRefuses(t *testing.T) {
	for _, ch := range numbers() {
		for _, task := range numbers() {
			for _, isGot := range []bool{false, true} {
				p := of(t, sent(0, 4), got(3, 5))
				p.add(t, deal.Deal{Chan: ch, Task: task, Value: 6, Got: isGot, At: 8})
				p.add(t, sent(0, 9))
				p.holds(t, ch, 0, 1, 3, -1)
			}
		}
	}
}

// All that Add may be handed stays as it was handed in.
func TestP19_1AddKeepsEachField(t *testing.T) {
	p := none(t)
	for _, n := range numbers() {
		p.add(t, deal.Deal{Value: n})
		p.add(t, deal.Deal{Value: n, Got: true, Task: -1})
		p.add(t, deal.Deal{At: n, Chan: 2})
		p.add(t, deal.Deal{At: n, Chan: 2, Got: true})
		if n >= 0 {
			p.add(t, deal.Deal{Chan: n, Value: 31, Task: 3})
			p.add(t, deal.Deal{Task: n, Value: 32, Chan: 3})
			p.add(t, deal.Deal{Task: n, Value: 33, Chan: 3, Got: true})
		}
	}
	p.holds(t, numbers()...)
}

// The same one counts as often as it is added.
func TestP19_1AddOfAlike(t *testing.T) {
	p := none(t)
	for range 70 {
		p.add(t, sent(5, 8))
		p.add(t, sent(5, 8))
		p.add(t, got(5, 8))
		p.holds(t, 4, 6)
	}
}

// In order as they came, also where their steps say otherwise.
func TestP19_1InOrder(t *testing.T) {
	p := none(t)
	for k := range 300 {
		p.add(t, deal.Deal{Chan: k % 3, Task: 200 - k%200, Value: -k, Got: k%2 == 1, At: 300 - k})
	}
	p.holds(t, 3)
	for ch := range 3 {
		for _, l := range [][]int{p.log.Sent(ch), p.log.Got(ch)} {
			if len(l) != 50 || !slices.IsSortedFunc(l, func(a, b int) int { return b - a }) {
				t.Errorf("of %d: %v", ch, l)
			}
		}
	}
}

func TestP19_1SentAndGotOfTheirChannel(t *testing.T) {
	p := none(t)
	for k, ch := range numbers() {
		p.add(t, sent(ch, k))
		p.add(t, got(ch, 100+k))
		p.add(t, sent(ch, 200+k))
	}
	p.holds(t, numbers()...)
	for k, ch := range numbers() {
		s, g := p.log.Sent(ch), p.log.Got(ch)
		wantS, wantG := []int{k, 200 + k}, []int{100 + k}
		if ch < 0 {
			wantS, wantG = nil, nil
		}
		if !slices.Equal(s, wantS) || !slices.Equal(g, wantG) {
			t.Errorf("of %d: sent %v, got %v", ch, s, g)
		}
	}
}

func TestP19_1Left(t *testing.T) {
	for _, c := range []struct {
		sent, got, want []int
	}{
		{nil, nil, nil},
		{[]int{1}, nil, []int{1}},
		{[]int{1, 2, 3}, nil, []int{1, 2, 3}},
		{[]int{1, 2, 3}, []int{1}, []int{2, 3}},
		{[]int{1, 2, 3}, []int{1, 2}, []int{3}},
		{[]int{1, 2, 3}, []int{1, 2, 3}, nil},
		{[]int{1, 2, 3}, []int{1, 2, 3, 4}, nil},
		{[]int{1, 2, 3}, []int{2}, nil},
		{[]int{1, 2, 3}, []int{3}, nil},
		{[]int{1, 2, 3}, []int{2, 3}, nil},
		{[]int{1, 2, 3}, []int{1, 3}, nil},
		{[]int{1, 2, 3}, []int{1, 2, 4}, nil},
		{[]int{1, 2, 3}, []int{0, 2}, nil},
		{nil, []int{1}, nil},
		{nil, []int{0}, nil},
		{[]int{0}, []int{0, 0}, nil},
		{[]int{5, 5, 5}, []int{5}, []int{5, 5}},
		{[]int{5, 5, 5}, []int{5, 5, 5}, nil},
		{[]int{1, 2, 1, 2}, []int{1, 2}, []int{1, 2}},
		{[]int{math.MaxInt, math.MinInt, -1}, []int{math.MaxInt}, []int{math.MinInt, -1}},
		{[]int{1 << 32, 7}, []int{0}, nil},
	} {
		// Left asks what went in all: the order of the sent and the received ones among each other does not count.
		for _, gotFirst := range []bool{false, true} {
			p := of(t, sent(8, 1), got(8, 1), sent(10, 9), got(11, 2))
			for k := range 2 {
				if (k == 0) == gotFirst {
					for _, v := range c.got {
						p.add(t, got(9, v))
					}
				} else {
					for _, v := range c.sent {
						p.add(t, sent(9, v))
					}
				}
			}
			if l := p.log.Left(9); !slices.Equal(l, c.want) {
				t.Errorf("sent %v, got %v: left %v, not %v", c.sent, c.got, l, c.want)
			}
			p.holds(t, 7, 12, -9)
		}
	}
}

// What was amiss of a channel may come right: what was received ahead was sent behind.
func TestP19_1LeftComesRight(t *testing.T) {
	p := of(t, got(2, 6), got(2, 5))
	for _, c := range []struct {
		d    deal.Deal
		want []int
	}{
		{sent(2, 6), nil}, {sent(2, 5), nil}, {sent(2, 4), []int{4}}, {sent(2, 3), []int{4, 3}},
		{got(2, 4), []int{3}}, {got(2, 2), nil}, {sent(2, 1), nil},
	} {
		p.add(t, c.d)
		if l := p.log.Left(2); !slices.Equal(l, c.want) {
			t.Errorf("behind %+v: left %v, not %v", p.all, l, c.want)
		}
		p.holds(t)
	}
}

func TestP19_1EachRow(t *testing.T) {
	eachRow(4, two(), func(l []deal.Deal) {
		of(t, l...).holds(t, -1, 0, 1, 2)
	})
}

// lists is each list of up to n numbers below most.
func lists(n, most int) [][]int {
	all := [][]int{nil}
	for from, k := 0, 0; k < n; k++ {
		to := len(all)
		for ; from < to; from++ {
			for v := range most {
				all = append(all, append(slices.Clone(all[from]), v))
			}
		}
	}
	return all
}

func TestP19_1PrefixOfEach(t *testing.T) {
	all := lists(5, 2)
	all = append(all, lists(3, 3)...)
	for _, a := range all {
		for _, b := range all {
			if got, want := deal.Prefix(a, b), begins(a, b); got != want {
				t.Fatalf("Prefix(%v, %v): %t", a, b, got)
			}
		}
	}
}

func TestP19_1Prefix(t *testing.T) {
	long := make([]int, 1000)
	for k := range long {
		long[k] = k * k
	}
	for n := range len(long) + 1 {
		if !deal.Prefix(long[:n], long) || !deal.Prefix(slices.Clone(long[:n]), long) {
			t.Fatalf("the first %d", n)
		}
		// What stands in the room behind a list is not of it.
		if n < len(long) && deal.Prefix(long, long[:n]) {
			t.Fatalf("all in the first %d", n)
		}
		if n < len(long) {
			other := slices.Clone(long)
			other[n]++
			if deal.Prefix(other, long) || deal.Prefix(other[:n+1], long) || !deal.Prefix(other[:n], long) {
				t.Fatalf("another at %d", n)
			}
		}
	}
	for _, v := range numbers() {
		for _, w := range numbers() {
			if deal.Prefix([]int{v}, []int{w, v}) != (v == w) || deal.Prefix([]int{3, v}, []int{3, w}) != (v == w) {
				t.Fatalf("%d and %d", v, w)
			}
		}
		if !deal.Prefix(nil, []int{v}) || !deal.Prefix([]int{}, []int{v}) || deal.Prefix([]int{v}, nil) || deal.Prefix([]int{v}, []int{}) {
			t.Fatalf("none and %d", v)
		}
	}
	if !deal.Prefix(nil, nil) || !deal.Prefix([]int{}, nil) || !deal.Prefix(nil, []int{}) || !deal.Prefix([]int{}, []int{}) {
		t.Error("none and none")
	}
}

// tells fails unless Sound answers so, and once more so.
func tells(t *testing.T, l []deal.Deal, caps map[int]int, want bool) {
	t.Helper()
	for range 2 {
		if got := deal.Sound(l, caps); got != want {
			t.Fatalf("Sound(%+v, %v): %t", l, caps, got)
		}
	}
}

func TestP19_2Sound(t *testing.T) {
	for _, c := range []struct {
		what string
		l    []deal.Deal
		caps map[int]int
		want bool
	}{
		{"nothing", nil, nil, true},
		{"nothing, of a channel", []deal.Deal{}, map[int]int{0: 3}, true},
		{"one that may be handed over", []deal.Deal{sent(0, 1)}, nil, true},
		{"handed over", []deal.Deal{sent(0, 1), got(0, 1)}, nil, true},
		{"handed over twice", []deal.Deal{sent(0, 1), got(0, 1), sent(0, 1), got(0, 1)}, map[int]int{0: 0}, true},
		{"two where none has room", []deal.Deal{sent(0, 1), sent(0, 2)}, nil, false},
		{"two where none has room, both received", []deal.Deal{sent(0, 1), sent(0, 2), got(0, 1), got(0, 2)}, nil, false},
		{"two where one has room", []deal.Deal{sent(0, 1), sent(0, 2)}, map[int]int{0: 1}, true},
		{"three where one has room", []deal.Deal{sent(0, 1), sent(0, 2), sent(0, 3)}, map[int]int{0: 1}, false},
		{"room of another channel", []deal.Deal{sent(0, 1), sent(0, 2)}, map[int]int{1: 9}, false},
		{"received ahead", []deal.Deal{got(0, 1), sent(0, 1)}, map[int]int{0: 9}, false},
		{"received alone", []deal.Deal{got(0, 0)}, map[int]int{0: 9}, false},
		{"received twice", []deal.Deal{sent(0, 1), got(0, 1), got(0, 1)}, map[int]int{0: 9}, false},
		{"received twice, and sent again", []deal.Deal{sent(0, 1), got(0, 1), got(0, 1), sent(0, 1)}, map[int]int{0: 9}, false},
		{"another value", []deal.Deal{sent(0, 1), got(0, 2)}, map[int]int{0: 9}, false},
		{"not in order", []deal.Deal{sent(0, 1), sent(0, 2), got(0, 2), got(0, 1)}, map[int]int{0: 9}, false},
		{"one passed by", []deal.Deal{sent(0, 1), sent(0, 2), got(0, 2)}, map[int]int{0: 9}, false},
		{"wrong at the last one", []deal.Deal{sent(0, 1), sent(0, 2), got(0, 1), got(0, 3)}, map[int]int{0: 9}, false},
		{"wrong at the first one", []deal.Deal{sent(0, 1), sent(0, 2), got(0, 3), got(0, 2)}, map[int]int{0: 9}, false},
		{"of another channel", []deal.Deal{sent(0, 1), got(1, 1)}, map[int]int{0: 9, 1: 9}, false},
		{"the other channel's first", []deal.Deal{sent(0, 1), sent(1, 2), got(1, 2), got(0, 1)}, nil, true},
		{"each its own", []deal.Deal{sent(0, 1), sent(1, 2), got(0, 2), got(1, 1)}, map[int]int{0: 9, 1: 9}, false},
		{"beyond its room for a while", []deal.Deal{sent(4, 1), sent(4, 2), sent(4, 3), got(4, 1), got(4, 2), got(4, 3)}, map[int]int{4: 1}, false},
		{"full, and one made room for", []deal.Deal{sent(4, 1), got(4, 1), sent(4, 2), sent(4, 3), got(4, 2), sent(4, 4)}, map[int]int{4: 1}, true},
		{"a timer's, by no task", []deal.Deal{{Chan: 3, Task: -1, Value: 9}, {Chan: 3, Value: 9, Got: true}}, map[int]int{3: 0}, true},
	} {
		if got := deal.Sound(c.l, c.caps); got != c.want {
			t.Errorf("%s: %t", c.what, got)
		}
	}
}

// Behind so many sends, and behind each receive that follows, of each room and just beyond it.
func TestP19_2EachRoom(t *testing.T) {
	for room := range 67 {
		for count := range 70 {
			var l []deal.Deal
			for v := range count {
				l = append(l, sent(6, v))
			}
			tells(t, l, map[int]int{6: room}, count <= room+1)
			tells(t, l, map[int]int{5: room, 7: room}, count <= 1)
			for v := range count {
				l = append(l, got(6, v))
				if deal.Sound(l, map[int]int{6: room}) != (count <= room+1) {
					t.Fatalf("room %d: %d sent, %d got", room, count, v+1)
				}
			}
		}
	}
}

// Filled to its room, each one that is received makes room for one more, and for one only.
func TestP19_2FullAllAlong(t *testing.T) {
	for _, room := range []int{0, 1, 2, 3, 64} {
		var l []deal.Deal
		for v := range room + 1 {
			l = append(l, sent(0, v))
		}
		caps := map[int]int{0: room}
		for v := range 100 {
			tells(t, append(slices.Clone(l), sent(0, -1)), caps, false)
			l = append(l, got(0, v))
			tells(t, l, caps, true)
			l = append(l, sent(0, room+1+v))
			tells(t, l, caps, true)
		}
	}
}

// No cap is so great, or so small, that one more of it were less.
func TestP19_2CapsAtTheirEdges(t *testing.T) {
	for _, n := range numbers() {
		caps := map[int]int{1: n}
		tells(t, nil, caps, true)
		tells(t, []deal.Deal{sent(1, 5)}, caps, n >= 0)
		tells(t, []deal.Deal{sent(1, 5), got(1, 5)}, caps, n >= 0)
		tells(t, []deal.Deal{sent(1, 5), sent(1, 6)}, caps, n >= 1)
		tells(t, []deal.Deal{sent(1, 5), sent(1, 6), got(1, 5)}, caps, n >= 1)
		tells(t, []deal.Deal{sent(1, 5), sent(1, 6), sent(1, 7)}, caps, n >= 2)
		tells(t, []deal.Deal{got(1, 5)}, caps, false)
		// Who has nothing in the list is not asked.
		tells(t, []deal.Deal{sent(0, 5), got(0, 5)}, caps, true)
	}
}

// What no Add takes is looked at as any other; so are values, tasks and steps of any number.
func TestP19_2AnyNumbers(t *testing.T) {
	for _, n := range numbers() {
		caps := map[int]int{n: 1}
		tells(t, []deal.Deal{sent(n, 3), sent(n, 4), got(n, 3), sent(n, 5)}, caps, true)
		tells(t, []deal.Deal{sent(n, 3), sent(n, 4), sent(n, 5)}, caps, false)
		tells(t, []deal.Deal{sent(n, 3), got(n, 4)}, caps, false)
		tells(t, []deal.Deal{sent(n, 3), sent(n, 4)}, nil, false)
		for _, v := range numbers() {
			tells(t, []deal.Deal{sent(0, n), got(0, v)}, nil, n == v)
			tells(t, []deal.Deal{sent(n, 3), got(v, 3)}, nil, n == v)
			tells(t, []deal.Deal{{Task: n, Value: 3, At: v}, {Task: v, Value: 3, Got: true, At: n}}, nil, true)
		}
	}
}

func TestP19_2EachRow(t *testing.T) {
	all := []map[int]int{nil, {}, {0: 0, 1: 0}, {0: 1}, {1: 1}, {0: 2, 1: 1}, {0: 9, 1: 9}, {0: -1, 1: 2}, {2: 9}}
	eachRow(5, two(), func(l []deal.Deal) {
		for _, caps := range all {
			if got, want := deal.Sound(l, caps), sound(l, caps); got != want {
				t.Fatalf("Sound(%+v, %v): %t", l, caps, got)
			}
		}
	})
}

// Longer ones of one channel, as more of them have room.
func TestP19_2EachRowOfOne(t *testing.T) {
	eachRow(7, []deal.Deal{sent(0, 1), got(0, 1), sent(0, 2), got(0, 2)}, func(l []deal.Deal) {
		for room := range 4 {
			caps := map[int]int{0: room}
			if got, want := deal.Sound(l, caps), sound(l, caps); got != want {
				t.Fatalf("Sound(%+v, %v): %t", l, caps, got)
			}
		}
	})
}

func TestP19_2NilLog(t *testing.T) {
	var log *deal.Log
	for _, n := range numbers() {
		for _, d := range []deal.Deal{{}, {Chan: n}, {Task: n}, sent(1, n), got(1, n)} {
			if e := log.Add(d); e != api.ErrArg {
				t.Errorf("Add(%+v): %d", d, e)
			}
		}
		if s, g, l := log.Sent(n), log.Got(n), log.Left(n); len(s)+len(g)+len(l) != 0 {
			t.Errorf("of %d: %v %v %v", n, s, g, l)
		}
	}
	if l := log.All(); len(l) != 0 {
		t.Errorf("All: %v", l)
	}
}

// A Log that New did not make is one of none.
func TestP19_2LogOfItself(t *testing.T) {
	p := plain{log: &deal.Log{}}
	p.holds(t, 0, 1)
	for _, d := range []deal.Deal{sent(1, 4), sent(-1, 4), got(0, 3), got(1, 4), sent(1, 5)} {
		p.add(t, d)
		p.holds(t, 0, 1, -1)
	}
}

// goes sends v on a channel, or receives of it, or waits for that, and tells what went then, as chapter 20 has it.
func goes(c *chanq.Chan, ch, task, v int, send bool) []deal.Deal {
	waiting := c.Waiting(true)
	var done bool
	var wakes []api.Wake
	if send {
		done, wakes, _ = c.Send(v)
	} else {
		v, _, done, wakes = c.Recv()
	}
	mine := deal.Deal{Chan: ch, Task: task, Value: v, Got: !send, At: task}
	switch {
	case !done:
		c.Wait(api.Wait{Task: task, Value: v}, send)
		return nil
	case len(wakes) == 0:
		return []deal.Deal{mine}
	case send:
		return []deal.Deal{mine, {Chan: ch, Task: wakes[0].Task, Value: v, Got: true, At: task}}
	}
	other := deal.Deal{Chan: ch, Task: wakes[0].Task, Value: waiting[0].Value, At: task}
	if c.Cap() == 0 {
		return []deal.Deal{other, mine}
	}
	return []deal.Deal{mine, other}
}

// fromChannels is what went by chance through channels of chapter 9, of these rooms, in so many steps.
func fromChannels(t *testing.T, r *rand.Rand, steps int, caps map[int]int) *plain {
	t.Helper()
	chans := map[int]*chanq.Chan{}
	for ch, room := range caps {
		chans[ch], _ = chanq.New(room)
	}
	names := slices.Sorted(maps.Keys(caps))
	p := none(t)
	for task := range steps {
		ch := names[r.Intn(len(names))]
		for _, d := range goes(chans[ch], ch, task, r.Intn(3), r.Intn(2) == 0) {
			p.add(t, d)
		}
		if !deal.Sound(p.log.All(), caps) {
			t.Fatalf("Sound(%+v, %v): false", p.all, caps)
		}
		if l := p.log.Left(ch); len(l) != chans[ch].Len() {
			t.Fatalf("left %v of %+v, not %d", l, p.all, chans[ch].Len())
		}
	}
	return p
}

// someRooms is three channels of rooms by chance.
func someRooms(r *rand.Rand) map[int]int {
	return map[int]int{0: r.Intn(2), 3: r.Intn(4), 1 << 40: r.Intn(9)}
}

// What goes through real channels is sound, and leaves what is in them.
func TestP19_2OfRealChannels(t *testing.T) {
	r := rand.New(rand.NewSource(19))
	for range 40 {
		fromChannels(t, r, 150, someRooms(r)).holds(t, 1, 2, -1)
	}
}

// broken is l with one fault by chance, or with what may be one.
func broken(r *rand.Rand, l []deal.Deal) []deal.Deal {
	l = slices.Clone(l)
	k := r.Intn(len(l))
	switch r.Intn(6) {
	case 0:
		return slices.Delete(l, k, k+1)
	case 1:
		return slices.Insert(l, k, l[r.Intn(len(l))])
	case 2:
		l[k].Value = r.Intn(3)
	case 3:
		l[k].Got = !l[k].Got
	case 4:
		l[k].Chan = l[r.Intn(len(l))].Chan
	case 5:
		o := r.Intn(len(l))
		l[k], l[o] = l[o], l[k]
	}
	return l
}

// Such a list with a fault, or with other rooms, is told as the chapter's words tell it.
func TestP19_2OfFaultyChannels(t *testing.T) {
	r := rand.New(rand.NewSource(91))
	told := map[bool]int{}
	for range 150 {
		caps := someRooms(r)
		p := fromChannels(t, r, 60, caps)
		for range 40 {
			l, rooms := broken(r, p.all), maps.Clone(caps)
			if r.Intn(3) == 0 {
				rooms[3] = r.Intn(4)
			}
			want := sound(l, rooms)
			told[want]++
			tells(t, l, rooms, want)
			of(t, l...).holds(t)
		}
	}
	if told[true] < 500 || told[false] < 500 {
		t.Errorf("sound %d times, unsound %d times", told[true], told[false])
	}
}

// A long list is looked at in one walk.
func TestP19_2Long(t *testing.T) {
	var l []deal.Deal
	for v := range 200_000 {
		l = append(l, sent(v%3, v), got(v%3, v))
	}
	tells(t, l, nil, true)
	l[len(l)-1].Value++
	tells(t, l, nil, false)
}

// roomy is a list with room behind it in which others stand.
func roomy() []deal.Deal {
	l := []deal.Deal{sent(0, 1), sent(1, 2), got(0, 1), got(1, 2), sent(0, 3), got(5, 8), sent(6, 9)}
	return l[:5]
}

func TestP19_3HandedInIsNotChanged(t *testing.T) {
	for n := range 8 {
		l, caps := roomy()[:n], map[int]int{0: 1, 7: 4}
		deal.Sound(l, caps)
		if now := l[:7]; !slices.Equal(now, roomy()[:7]) {
			t.Errorf("%d of them became %+v", n, now)
		}
		if len(caps) != 2 || caps[0] != 1 || caps[7] != 4 {
			t.Errorf("caps became %v", caps)
		}
	}
	a, b := []int{1, 2, 3, 4, 5}, []int{1, 2, 9, 8, 7}
	for i := range 6 {
		for k := range 6 {
			deal.Prefix(a[:i], b[:k])
		}
	}
	if !slices.Equal(a, []int{1, 2, 3, 4, 5}) || !slices.Equal(b, []int{1, 2, 9, 8, 7}) {
		t.Errorf("became %v and %v", a, b)
	}
}

// Sound hangs on what it is handed each time, on nothing of before.
func TestP19_3NothingIsKept(t *testing.T) {
	l, caps := roomy(), map[int]int{}
	tells(t, l, caps, true)
	l[2].Value = 7
	tells(t, l, caps, false)
	l[2] = sent(0, 1)
	tells(t, l, caps, false)
	caps[0] = 2
	tells(t, l, caps, true)
	tells(t, l, nil, false)
	tells(t, l[:2], nil, true)
}

// spoil writes over a list, and over the room behind it.
func spoil[T any](l []T, with T) {
	l = l[:cap(l)]
	for k := range l {
		l[k] = with
	}
}

func TestP19_3NewMemory(t *testing.T) {
	p := none(t)
	for k := range 70 {
		p.add(t, sent(2, k))
		p.add(t, sent(3, -k))
		if k%2 == 0 {
			p.add(t, got(2, k/2))
		}
		spoil(p.log.All(), got(9, -1))
		p.holds(t, 9)
		for ch := range 4 {
			spoil(p.log.Sent(ch), -71)
			p.holds(t, 9)
			spoil(p.log.Got(ch), -72)
			p.holds(t, 9)
			spoil(p.log.Left(ch), -73)
			p.holds(t, 9)
		}
	}
}

// What was answered ahead stays, whatever is added then.
func TestP19_3AnsweredStays(t *testing.T) {
	p := of(t, sent(2, 1), sent(2, 2), got(2, 1))
	all, s, g, l := p.log.All(), p.log.Sent(2), p.log.Got(2), p.log.Left(2)
	wasAll, wasS, wasG, wasL := slices.Clone(all), slices.Clone(s), slices.Clone(g), slices.Clone(l)
	for k := range 40 {
		p.add(t, sent(2, 10+k))
		p.add(t, got(2, 20+k))
	}
	if !slices.Equal(all, wasAll) || !slices.Equal(s, wasS) || !slices.Equal(g, wasG) || !slices.Equal(l, wasL) {
		t.Errorf("became %+v %v %v %v", all, s, g, l)
	}
}

// Two logs have nothing in common.
func TestP19_3Apart(t *testing.T) {
	p, q := of(t, sent(0, 1)), of(t, sent(0, 2), got(1, 3))
	for k := range 30 {
		p.add(t, sent(k%4, k))
		q.add(t, got(k%3, -k))
		p.holds(t, 0, 1, 2, 3)
		q.holds(t, 0, 1, 2, 3)
	}
}
