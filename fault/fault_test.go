package fault_test

import (
	"errors"
	"fmt"
	"math"
	"math/rand"
	"reflect"
	"slices"
	"strings"
	"testing"

	"tarpaulin/api"
	"tarpaulin/fault"
)

// code is the shape of a code.
func code(n int) api.Fault { return api.Fault{Code: n} }

// op is the shape of what wraps kids.
func op(name string, kids ...api.Fault) api.Fault { return api.Fault{Op: name, Kids: kids} }

// chain is a shape so deep, of one kid each.
func chain(depth int) api.Fault {
	f := code(7)
	for range depth - 1 {
		f = op("o", f)
	}
	return f
}

// broad is a shape of so many in all, all but one of them side by side.
func broad(count int) api.Fault {
	f := op("b")
	for i := range count - 1 {
		f.Kids = append(f.Kids, code(i+1))
	}
	return f
}

// loop is a shape that holds itself, so many times side by side.
func loop(times int) api.Fault {
	f := api.Fault{Op: "o", Kids: make([]api.Fault, times)}
	for i := range f.Kids {
		f.Kids[i] = f
	}
	return f
}

// made is the error of a shape that may be.
func made(t *testing.T, f api.Fault) error {
	t.Helper()
	err := fault.Make(f)
	if err == nil {
		t.Fatalf("no error of %+v", f)
	}
	return err
}

// same tells whether two shapes are the same, nil and an empty list being so.
func same(f, g api.Fault) bool {
	return f.Code == g.Code && f.Op == g.Op && slices.EqualFunc(f.Kids, g.Kids, same)
}

// mustShape fails unless err's shape is f.
func mustShape(t *testing.T, err error, f api.Fault) {
	t.Helper()
	if got, ok := fault.Shape(err); !ok || !same(got, f) {
		t.Errorf("the shape of %v: %+v, %t, not %+v", err, got, ok, f)
	}
}

// Errors from elsewhere.
type (
	wraps    struct{ inner error }   // wraps one
	several  struct{ inner []error } // wraps some; not to be compared
	claims   struct{ code int }      // says of itself that it is that code
	becomes  struct{ code int }      // can be had as a code
	panics   struct{}                // at every question
	embedded struct{ fault.Code }
)

func (w wraps) Error() string   { return "wraps" }
func (w wraps) Unwrap() error   { return w.inner }
func (s several) Error() string { return "several" }
func (s several) Unwrap() []error {
	return s.inner
}
func (c claims) Error() string        { return "claims" }
func (c claims) Is(target error) bool { return target == error(fault.Code{N: c.code}) }
func (b becomes) Error() string       { return "becomes" }
func (b becomes) As(target any) bool {
	c, ok := target.(*fault.Code)
	if ok {
		c.N = b.code
	}
	return ok
}
func (p panics) Error() string   { panic("asked for its text") }
func (p panics) Is(error) bool   { panic("asked what it is") }
func (p panics) As(any) bool     { panic("asked as what it can be had") }
func (p panics) Unwrap() []error { panic("asked what it wraps") }

// pointed is an error only by pointer: a nil one panics when it is asked.
type pointed struct{ inner error }

func (p *pointed) Error() string { return "pointed " + p.inner.Error() }
func (p *pointed) Unwrap() error { return p.inner }

// foreign are errors that were not made here.
func foreign() []error {
	var none *pointed
	here := fault.Make(op("x", code(2)))
	return []error{
		errors.New("plain"), fmt.Errorf("with %w", here), errors.Join(fault.Code{N: 2}, here),
		wraps{here}, wraps{}, several{[]error{here}}, several{}, claims{2}, becomes{2}, panics{}, none, &pointed{here},
		embedded{fault.Code{N: 2}}, &fault.Code{N: 2}, (*fault.Code)(nil),
		fault.Code{}, fault.Code{N: -1}, fault.Code{N: math.MinInt},
		reflect.Zero(reflect.TypeOf(here)).Interface().(error),
		reflect.New(reflect.TypeOf(here).Elem()).Interface().(error),
	}
}

func TestP2_1TextOfACode(t *testing.T) {
	for n, want := range map[int]string{
		0: "code 0", 1: "code 1", 10: "code 10", -3: "code -3",
		math.MaxInt: "code 9223372036854775807", math.MinInt: "code -9223372036854775808",
	} {
		if got := (fault.Code{N: n}).Error(); got != want {
			t.Errorf("%q, not %q", got, want)
		}
	}
}

func TestP2_1MakeOfACodeIsTheCode(t *testing.T) {
	for _, n := range []int{1, 2, 1000, math.MaxInt} {
		if got := fault.Make(code(n)); got != error(fault.Code{N: n}) {
			t.Errorf("%d: %#v", n, got)
		}
	}
}

func TestP2_1TextOfOthers(t *testing.T) {
	for want, f := range map[string]api.Fault{
		"x: code 2":         op("x", code(2)),
		"x: code 2; code 1": op("x", code(2), code(1)),
		"a: b: code 3; code 4; c: code 5; code 6": op("a", op("b", code(3), code(4)), op("c", code(5)), code(6)),
		"\xff\x00: code 1":                        op("\xff\x00", code(1)),
	} {
		if got := made(t, f).Error(); got != want {
			t.Errorf("%q, not %q", got, want)
		}
	}
}

func TestP2_1MakeOfAShapeThatMayNotBe(t *testing.T) {
	for name, f := range map[string]api.Fault{
		"nothing":                   {},
		"code below 0":              code(-1),
		"least code":                code(math.MinInt),
		"code and op":               {Code: 1, Op: "x"},
		"code and kids":             {Code: 1, Kids: []api.Fault{code(2)}},
		"code, op and kids":         {Code: 1, Op: "x", Kids: []api.Fault{code(2)}},
		"code below 0, op, kids":    {Code: -1, Op: "x", Kids: []api.Fault{code(2)}},
		"op without kids":           {Op: "x"},
		"op with an empty list":     {Op: "x", Kids: []api.Fault{}},
		"kids without op":           {Kids: []api.Fault{code(2)}},
		"a kid that is nothing":     op("x", code(1), api.Fault{}),
		"a first kid may not be":    op("x", code(-1), code(1)),
		"a kid's kid may not be":    op("x", op("y", code(1), op("z"))),
		"a kid of code and op":      op("x", api.Fault{Code: 1, Op: "y"}),
		"too deep":                  chain(21),
		"much too deep":             chain(100_000),
		"too deep on the right":     op("x", code(1), chain(20)),
		"too many":                  broad(51),
		"far too many":              broad(100_000),
		"too many further in":       op("x", broad(25), broad(25)),
		"holds itself":              loop(1),
		"holds itself side by side": loop(3),
		"holds itself many times":   loop(49),
	} {
		if got := fault.Make(f); got != nil {
			t.Errorf("%s: %T", name, got)
		}
	}
}

func TestP2_1MakeAtTheEdges(t *testing.T) {
	for name, f := range map[string]api.Fault{
		"as deep as may be":            chain(20),
		"as deep as may be, the right": op("x", code(1), chain(19)),
		"as many as may be":            broad(50),
		"as many, further in":          op("x", broad(25), broad(24)),
		"a code with an empty list":    {Code: 1, Kids: []api.Fault{}},
	} {
		err := fault.Make(f)
		if err == nil {
			t.Errorf("%s: nil", name)
			continue
		}
		mustShape(t, err, f)
	}
}

func TestP2_1Has(t *testing.T) {
	err := made(t, op("a", code(3), op("b", op("c", code(4)), code(5))))
	for _, n := range []int{3, 4, 5} {
		if !fault.Has(err, n) || !fault.Has(fmt.Errorf("with %w", err), n) {
			t.Errorf("%d is not in it", n)
		}
	}
	for _, n := range []int{0, 1, 2, 6, -3, math.MaxInt, math.MinInt} {
		if fault.Has(err, n) {
			t.Errorf("%d is in it", n)
		}
	}
	if !fault.Has(fault.Wrap("x", fault.Code{N: 2}), 2) {
		t.Error("the example does not hold")
	}
	for _, n := range []int{0, 1, -1} {
		if fault.Has(nil, n) {
			t.Errorf("%d is in nil", n)
		}
	}
}

func TestP2_1HasAndFindAskAsErrorsDoes(t *testing.T) {
	here := made(t, op("x", code(2), code(8)))
	for name, err := range map[string]error{
		"plain":       errors.New("code 2"),
		"wraps":       wraps{here},
		"wraps nil":   wraps{},
		"several":     several{[]error{errors.New("plain"), wraps{here}, fault.Code{N: 9}}},
		"several nil": several{[]error{nil, here}},
		"joined":      errors.Join(errors.New("plain"), fault.Code{N: 9}, here),
		"claims":      claims{2},
		"becomes":     becomes{2},
		"claims in":   several{[]error{claims{7}, becomes{2}, here}},
		"embedded":    embedded{fault.Code{N: 2}},
		"by pointer":  &fault.Code{N: 2},
		"code 0":      fault.Code{},
		"below 0":     wraps{fault.Code{N: -1}},
	} {
		for _, n := range []int{-1, 0, 2, 7, 8, 9} {
			if got, want := fault.Has(err, n), errors.Is(err, fault.Code{N: n}); got != want {
				t.Errorf("%s: Has %d: %t, not %t", name, n, got, want)
			}
		}
		var c fault.Code
		found := errors.As(err, &c)
		if n, ok := fault.Find(err); ok != found || n != c.N {
			t.Errorf("%s: Find: %d, %t, not %d, %t", name, n, ok, c.N, found)
		}
	}
}

func TestP2_1ErrorsThatPanic(t *testing.T) {
	var none *pointed
	for _, err := range []error{panics{}, none, wraps{panics{}}, several{[]error{none, fault.Code{N: 2}}}} {
		if fault.Has(err, 2) {
			t.Errorf("%T: has 2", err)
		}
		if n, ok := fault.Find(err); n != 0 || ok {
			t.Errorf("%T: %d, %t", err, n, ok)
		}
	}
	// What stands ahead of the one that panics is told.
	err := several{[]error{fault.Code{N: 2}, panics{}}}
	if n, ok := fault.Find(err); !fault.Has(err, 2) || n != 2 || !ok {
		t.Errorf("%d, %t", n, ok)
	}
}

func TestP2_1FindOfNone(t *testing.T) {
	for _, err := range []error{nil, errors.New("plain"), wraps{}, several{}} {
		if n, ok := fault.Find(err); n != 0 || ok {
			t.Errorf("%v: %d, %t", err, n, ok)
		}
	}
}

func TestP2_2Wrap(t *testing.T) {
	inner := made(t, op("y", code(1), code(2)))
	mustShape(t, fault.Wrap("x", inner), op("x", op("y", code(1), code(2))))
	mustShape(t, fault.Wrap("x", fault.Code{N: 2}), op("x", code(2)))
	mustShape(t, fault.Wrap("all", fault.Join(inner)), op("all", op("all", op("y", code(1), code(2)))))
	if got := fault.Wrap("x", inner).Error(); got != "x: y: code 1; code 2" {
		t.Errorf("%q", got)
	}
	if !errors.Is(fault.Wrap("x", inner), inner) {
		t.Error("what is wrapped is not in it")
	}
}

func TestP2_2WrapOfWhatMayNotBe(t *testing.T) {
	inner := made(t, op("y", code(1)))
	if fault.Wrap("", inner) != nil || fault.Wrap("", nil) != nil || fault.Wrap("x", nil) != nil {
		t.Error("an empty op, or a nil error, is wrapped")
	}
	for i, err := range foreign() {
		if got := fault.Wrap("x", err); got != nil {
			t.Errorf("%d, a %T, is wrapped", i, err)
		}
	}
	if fault.Wrap("x", made(t, chain(19))) == nil || fault.Wrap("x", made(t, broad(49))) == nil {
		t.Error("the deepest, or the greatest, is not wrapped")
	}
	if fault.Wrap("x", made(t, chain(20))) != nil || fault.Wrap("x", made(t, broad(50))) != nil {
		t.Error("one that gets too deep, or too great, is wrapped")
	}
}

func TestP2_2Join(t *testing.T) {
	inner := made(t, op("y", code(1), code(2)))
	mustShape(t, fault.Join(inner), op("all", op("y", code(1), code(2))))
	mustShape(t, fault.Join(nil, fault.Code{N: 3}, nil, inner, inner, nil), op("all", code(3), op("y", code(1), code(2)), op("y", code(1), code(2))))
	mustShape(t, fault.Join(fault.Code{N: 2}, fault.Code{N: 1}), op("all", code(2), code(1)))
	if got := fault.Join(fault.Code{N: 3}, inner).Error(); got != "all: code 3; y: code 1; code 2" {
		t.Errorf("%q", got)
	}
	if !errors.Is(fault.Join(fault.Code{N: 3}, inner), inner) {
		t.Error("what is put together is not in it")
	}
}

func TestP2_2JoinOfWhatMayNotBe(t *testing.T) {
	if fault.Join() != nil || fault.Join(nil) != nil || fault.Join(nil, nil, nil) != nil || fault.Join([]error(nil)...) != nil {
		t.Error("none are put together")
	}
	for i, err := range foreign() {
		if fault.Join(err) != nil || fault.Join(fault.Code{N: 1}, err) != nil || fault.Join(err, nil, fault.Code{N: 1}) != nil {
			t.Errorf("%d, a %T, is put together", i, err)
		}
	}
	many := make([]error, 100_000)
	for i := range many {
		many[i] = fault.Code{N: i + 1}
	}
	if fault.Join(many[:49]...) == nil || fault.Join(made(t, chain(19)), nil) == nil || fault.Join(made(t, broad(25)), made(t, broad(24))) == nil {
		t.Error("as many, or as deep, as may be are not put together")
	}
	if fault.Join(many[:50]...) != nil || fault.Join(many...) != nil || fault.Join(made(t, chain(20))) != nil || fault.Join(made(t, broad(25)), made(t, broad(25))) != nil {
		t.Error("too many, or too deep, are put together")
	}
}

func TestP2_2JoinLeavesItsList(t *testing.T) {
	l := []error{nil, fault.Code{N: 1}, nil, fault.Code{N: 2}, fault.Code{N: 3}}
	was := slices.Clone(l)
	err := fault.Join(l[:4]...)
	if !slices.Equal(l, was) {
		t.Errorf("the list is %v now", l)
	}
	clear(l)
	mustShape(t, err, op("all", code(1), code(2)))
}

func TestP2_2ShapeOfOthers(t *testing.T) {
	for i, err := range append(foreign(), nil) {
		if f, ok := fault.Shape(err); ok || !reflect.DeepEqual(f, api.Fault{}) {
			t.Errorf("%d, a %T: %+v, %t", i, err, f, ok)
		}
	}
}

func TestP2_2ShapeIsNewMemory(t *testing.T) {
	f := op("x", op("y", code(1), code(2)), code(3))
	want := "x: y: code 1; code 2; code 3"
	err := made(t, f)
	f.Kids[0].Kids[1] = code(9)
	f.Kids[1] = code(9)
	if got := err.Error(); got != want {
		t.Errorf("the error kept what it was made of: %q", got)
	}
	inner := fault.Wrap("y", fault.Code{N: 1})
	twice := fault.Join(inner, inner)
	got, _ := fault.Shape(twice)
	got.Kids[0].Kids[0] = code(9)
	if got.Kids[1].Kids[0].Code != 1 {
		t.Error("two lists of one answer share memory")
	}
	got.Kids[1] = code(9)
	_ = append(got.Kids[:0], code(8), code(8))
	mustShape(t, twice, op("all", op("y", code(1)), op("y", code(1))))
}

// unwrapped is what err wraps, by the one call that errors knows for that.
func unwrapped(t *testing.T, err error) []error {
	t.Helper()
	u, ok := err.(interface{ Unwrap() []error })
	if !ok {
		t.Fatalf("%v cannot be asked for some", err)
	}
	return u.Unwrap()
}

func TestP2_3Unwrap(t *testing.T) {
	inner := fault.Wrap("y", fault.Code{N: 1})
	for _, err := range []error{fault.Wrap("x", inner), made(t, op("x", op("y", code(1)))), fault.Join(inner)} {
		got := unwrapped(t, err)
		if len(got) != 1 {
			t.Fatalf("%v wraps %v", err, got)
		}
		mustShape(t, got[0], op("y", code(1)))
		if errors.Unwrap(err) != nil {
			t.Errorf("%v can be asked for one", err)
		}
	}
	got := unwrapped(t, fault.Join(fault.Code{N: 2}, inner, fault.Code{N: 1}))
	if len(got) != 3 || got[0] != error(fault.Code{N: 2}) || got[1] != inner || got[2] != error(fault.Code{N: 1}) {
		t.Errorf("some, in order: %v", got)
	}
}

func TestP2_3UnwrapIsNewMemory(t *testing.T) {
	err := fault.Join(fault.Code{N: 2}, fault.Code{N: 1})
	unwrapped(t, err)[0] = errors.New("plain")
	_ = append(unwrapped(t, err)[:1], panics{})
	mustShape(t, err, op("all", code(2), code(1)))
	if !fault.Has(err, 2) {
		t.Error("the error changed")
	}
}

func TestP2_3FindTellsTheFirst(t *testing.T) {
	for want, err := range map[int]error{
		3: fault.Make(op("a", op("b", op("c", code(3)), code(4)), code(5))),
		4: fault.Make(op("a", code(4), op("b", code(9)))),
		5: fault.Join(nil, fault.Wrap("x", fault.Code{N: 5}), fault.Code{N: 1}),
		6: fault.Code{N: 6},
		7: several{[]error{errors.New("plain"), wraps{fault.Code{N: 7}}, fault.Code{N: 8}}},
		// An outer one is told ahead of what is in it.
		8: becomesAround{8, fault.Code{N: 9}},
	} {
		if n, ok := fault.Find(err); n != want || !ok {
			t.Errorf("%v: %d, %t, not %d", err, n, ok, want)
		}
	}
}

// becomesAround can be had as a code, and wraps another.
type becomesAround struct {
	code  int
	inner error
}

func (b becomesAround) Error() string      { return "becomes around" }
func (b becomesAround) As(target any) bool { return becomes{b.code}.As(target) }
func (b becomesAround) Unwrap() error      { return b.inner }

// grow is a shape by chance, most often one that may be.
func grow(r *rand.Rand, depth int) api.Fault {
	if r.Intn(60) == 0 {
		return api.Fault{Code: r.Intn(3) - 1, Op: strings.Repeat("o", r.Intn(2)), Kids: make([]api.Fault, r.Intn(2))}
	}
	if depth <= 1 || r.Intn(3) == 0 {
		return code(1 + r.Intn(9))
	}
	f := op("o")
	for range 1 + r.Intn(3) {
		f.Kids = append(f.Kids, grow(r, depth-1))
	}
	return f
}

// measure is a shape's depth, how many it is in all, its codes from the left, its text, and whether each in it is a code or an op with kids.
func measure(f api.Fault) (depth, count int, codes []int, text string, fine bool) {
	if f.Op == "" && len(f.Kids) == 0 {
		return 1, 1, []int{f.Code}, fmt.Sprintf("code %d", f.Code), f.Code > 0
	}
	var texts []string
	fine = f.Code == 0 && f.Op != "" && len(f.Kids) > 0
	for _, k := range f.Kids {
		d, n, c, s, ok := measure(k)
		depth, count, codes, texts, fine = max(depth, d), count+n, append(codes, c...), append(texts, s), fine && ok
	}
	return depth + 1, count + 1, codes, f.Op + ": " + strings.Join(texts, "; "), fine
}

func TestP2_AllOfItByChance(t *testing.T) {
	r := rand.New(rand.NewSource(1))
	made, refused := 0, 0
	for range 4_000 {
		f := grow(r, 1+r.Intn(24))
		depth, count, codes, text, fine := measure(f)
		err := fault.Make(f)
		if !fine || depth > 20 || count > 50 {
			refused++
			if err != nil {
				t.Fatalf("%+v is made", f)
			}
			continue
		}
		made++
		if err == nil || err.Error() != text {
			t.Fatalf("%+v: %v, not %s", f, err, text)
		}
		mustShape(t, err, f)
		if n, ok := fault.Find(err); n != codes[0] || !ok {
			t.Fatalf("%v: finds %d", err, n)
		}
		for n := range 11 {
			if fault.Has(err, n) != slices.Contains(codes, n) {
				t.Fatalf("%v: has %d", err, n)
			}
		}
		if w := fault.Wrap("w", err); (w != nil) != (depth < 20 && count < 50) {
			t.Fatalf("%v: wrapped: %v", err, w)
		}
	}
	if made < 500 || refused < 500 {
		t.Errorf("%d made, %d refused", made, refused)
	}
}
