package why_test

import (
	"errors"
	"fmt"
	"math"
	"math/rand"
	"reflect"
	"slices"
	"strings"
	"testing"

	"tarpaulin/api"
	"tarpaulin/ctx"
	"tarpaulin/fault"
	"tarpaulin/timer"
	"tarpaulin/why"
)

// numbers are codes that are none of a context, beside those that are.
func numbers() []int {
	return []int{math.MinInt, math.MinInt + 1, -1 << 32, -2, -1, api.Nil, api.Canceled, api.Exceeded, 3, 4, 9, 10, 999, 1000, 1001,
		1 << 31, 1<<32 + 1, 1<<32 + 2, math.MaxInt}
}

// own is the shape that a context's error has; none, if it is no error.
func own(code int) (api.Fault, bool) {
	switch code {
	case 1:
		return api.Fault{Code: 1}, true
	case 2:
		return api.Fault{Op: "deadline", Kids: []api.Fault{{Code: 2}}}, true
	}
	return api.Fault{}, false
}

// reason is the shape that a context's cause has; none, if its error is no error.
func reason(err, cause int) (api.Fault, bool) {
	f, ok := own(err)
	if !ok || cause < 1 || cause == err {
		return f, ok
	}
	g := api.Fault{Op: "cause", Kids: []api.Fault{{Code: cause}}}
	return api.Fault{Op: "all", Kids: []api.Fault{g, f}}, true
}

// codes are all codes of a shape.
func codes(f api.Fault) []int {
	if f.Code > 0 {
		return []int{f.Code}
	}
	var l []int
	for _, k := range f.Kids {
		l = append(l, codes(k)...)
	}
	return l
}

// deepest is the greatest of some codes that Deepest asks for.
func deepest(l []int) int {
	most := 0
	for _, code := range l {
		if code <= 1000 {
			most = max(most, code)
		}
	}
	return most
}

// mustBe fails unless err has the shape of f, or is none if there is none.
func mustBe(t *testing.T, what string, err error, f api.Fault, ok bool) {
	t.Helper()
	if !ok {
		if err != nil {
			t.Errorf("%s: %v, and not nil", what, err)
		}
		return
	}
	if got, made := fault.Shape(err); !made || !reflect.DeepEqual(got, f) {
		t.Errorf("%s: the shape %+v, %t, not %+v", what, got, made, f)
	}
}

// mustAnswer fails unless err answers as an error of these codes does.
func mustAnswer(t *testing.T, what string, err error, l []int) {
	t.Helper()
	for _, code := range append(numbers(), l...) {
		if got, want := why.Is(err, code), slices.Contains(l, code); got != want {
			t.Errorf("%s: Is %d: %t, not %t", what, code, got, want)
		}
	}
	if got, want := why.Deepest(err), deepest(l); got != want {
		t.Errorf("%s: Deepest: %d, not %d", what, got, want)
	}
	if got, want := why.Timeout(err), slices.Contains(l, 2); got != want {
		t.Errorf("%s: Timeout: %t, not %t", what, got, want)
	}
}

// Errors from elsewhere.
type (
	wraps  struct{ inner error }
	claims struct{ least, most int } // says of itself that it is each code from the one to the other
	panics struct{}                  // at every question
)

func (w wraps) Error() string { return "wraps " + w.inner.Error() }
func (w wraps) Unwrap() error { return w.inner }

func (c claims) Error() string { return "claims" }
func (c claims) Is(target error) bool {
	code, ok := target.(fault.Code)
	return ok && code.N >= c.least && code.N <= c.most
}

func (p panics) Error() string   { panic("asked for its text") }
func (p panics) Is(error) bool   { panic("asked what it is") }
func (p panics) As(any) bool     { panic("asked as what it can be had") }
func (p panics) Unwrap() []error { panic("asked what it wraps") }

// pointed is an error only by pointer: a nil one panics when it is asked.
type pointed struct{ inner error }

func (p *pointed) Error() string { return "pointed " + p.inner.Error() }
func (p *pointed) Unwrap() error { return p.inner }

func TestP16Example(t *testing.T) {
	err := why.Cause(1, 9)
	if !why.Is(err, 9) || !why.Is(err, 1) || why.Is(err, 2) {
		t.Errorf("%v: %t, %t, %t", err, why.Is(err, 9), why.Is(err, 1), why.Is(err, 2))
	}
}

func TestP16_1Err(t *testing.T) {
	if got := why.Err(api.Canceled); got != error(fault.Code{N: 1}) {
		t.Errorf("Canceled: %#v", got)
	}
	if got := why.Err(api.Exceeded); !reflect.DeepEqual(got, fault.Wrap("deadline", fault.Code{N: 2})) {
		t.Errorf("Exceeded: %#v", got)
	}
	for _, code := range numbers() {
		f, ok := own(code)
		mustBe(t, fmt.Sprintf("Err(%d)", code), why.Err(code), f, ok)
	}
}

func TestP16_1Cause(t *testing.T) {
	for _, err := range numbers() {
		for _, cause := range numbers() {
			f, ok := reason(err, cause)
			mustBe(t, fmt.Sprintf("Cause(%d, %d)", err, cause), why.Cause(err, cause), f, ok)
		}
	}
}

func TestP16_1CauseThatIsTheErrorIsJustIt(t *testing.T) {
	for _, cause := range []int{1, 0, -1, math.MinInt} {
		if got := why.Cause(1, cause); got != error(fault.Code{N: 1}) {
			t.Errorf("Cause(1, %d): %#v", cause, got)
		}
	}
	for _, cause := range []int{2, 0, -1, math.MinInt} {
		if got := why.Text(why.Cause(2, cause)); got != "deadline: code 2" {
			t.Errorf("Cause(2, %d): %q", cause, got)
		}
	}
}

func TestP16_1NoErrorHasNoCause(t *testing.T) {
	for _, err := range []int{0, 3, -1, math.MinInt, math.MaxInt} {
		for _, cause := range []int{err, 0, 1, 2, 9} {
			if got := why.Cause(err, cause); got != nil {
				t.Errorf("Cause(%d, %d): %v", err, cause, got)
			}
		}
	}
}

func TestP16_2Text(t *testing.T) {
	none := (*pointed)(nil)
	for _, x := range []struct {
		err  error
		want string
	}{
		{nil, ""},
		{why.Err(0), ""},
		{why.Err(3), ""},
		{why.Cause(0, 9), ""},
		{why.Err(1), "code 1"},
		{why.Err(2), "deadline: code 2"},
		{why.Cause(1, 9), "all: cause: code 9; code 1"},
		{why.Cause(2, 9), "all: cause: code 9; deadline: code 2"},
		{why.Cause(1, 2), "all: cause: code 2; code 1"},
		{why.Cause(2, 1), "all: cause: code 1; deadline: code 2"},
		{why.Cause(1, math.MaxInt), "all: cause: code 9223372036854775807; code 1"},
		{why.Cause(1, -4), "code 1"},
		{errors.New(""), ""},
		{errors.New("plain\xff\x00"), "plain\xff\x00"},
		{wraps{why.Err(2)}, "wraps deadline: code 2"},
		{&pointed{why.Err(1)}, "pointed code 1"},
		{panics{}, ""},
		{wraps{}, ""},
		{none, ""},
		{fault.Wrap("x", fault.Code{N: 2}), "x: code 2"},
	} {
		if got := why.Text(x.err); got != x.want {
			t.Errorf("%#v: %q, not %q", x.err, got, x.want)
		}
	}
}

func TestP16_2OfContextsErrors(t *testing.T) {
	mustAnswer(t, "nil", nil, nil)
	for _, err := range numbers() {
		f, _ := own(err)
		mustAnswer(t, fmt.Sprintf("Err(%d)", err), why.Err(err), codes(f))
		for _, cause := range numbers() {
			f, _ := reason(err, cause)
			mustAnswer(t, fmt.Sprintf("Cause(%d, %d)", err, cause), why.Cause(err, cause), codes(f))
		}
	}
}

func TestP16_2DeepestEdges(t *testing.T) {
	for n, want := range map[int]int{math.MinInt: 0, -1: 0, 0: 0, 1: 1, 2: 2, 500: 500, 999: 999, 1000: 1000, 1001: 0, math.MaxInt: 0} {
		if got := why.Deepest(fault.Code{N: n}); got != want {
			t.Errorf("code %d: %d, not %d", n, got, want)
		}
	}
	for n := 1; n <= 1000; n++ {
		if got := why.Deepest(fault.Code{N: n}); got != n {
			t.Fatalf("code %d: %d", n, got)
		}
	}
}

func TestP16_2OfErrorsFromElsewhere(t *testing.T) {
	none := (*pointed)(nil)
	for _, x := range []struct {
		err     error
		deepest int
		is      []int // of 1 to 2000
		timeout bool
	}{
		{err: errors.New("plain")},
		{err: panics{}},
		{err: none},
		{err: wraps{}},
		{err: fault.Code{}},
		{err: fault.Code{N: -2}},
		{err: &fault.Code{N: 2}},
		{err: errors.Join(why.Err(1), why.Cause(2, 1500)), deepest: 2, is: []int{1, 2, 1500}, timeout: true},
		{err: fmt.Errorf("with %w and %w", why.Cause(1, 40), why.Cause(1, 30)), deepest: 40, is: []int{1, 30, 40}},
		{err: wraps{why.Cause(2, 9)}, deepest: 9, is: []int{2, 9}, timeout: true},
		{err: &pointed{why.Err(1)}, deepest: 1, is: []int{1}},
		{err: claims{1, 1}, deepest: 1, is: []int{1}},
		{err: claims{2, 4}, deepest: 4, is: []int{2, 3, 4}, timeout: true},
		{err: claims{998, 1002}, deepest: 1000, is: []int{998, 999, 1000, 1001, 1002}},
		{err: claims{1001, 1002}, is: []int{1001, 1002}},
		{err: claims{-9, 0}},
		{err: fault.Join(why.Cause(1, 7), errors.New("made elsewhere"), why.Err(2))},
	} {
		for code := 1; code <= 2000; code++ {
			if got, want := why.Is(x.err, code), slices.Contains(x.is, code); got != want {
				t.Errorf("%#v: Is %d: %t, not %t", x.err, code, got, want)
			}
		}
		if got := why.Deepest(x.err); got != x.deepest {
			t.Errorf("%#v: Deepest: %d, not %d", x.err, got, x.deepest)
		}
		if got := why.Timeout(x.err); got != x.timeout {
			t.Errorf("%#v: Timeout: %t, not %t", x.err, got, x.timeout)
		}
	}
}

func TestP16_2IsAsChapter2(t *testing.T) {
	l := []error{nil, why.Err(1), why.Err(2), why.Cause(1, 9), why.Cause(2, 1), fault.Code{}, fault.Code{N: -1}, wraps{why.Err(2)},
		claims{-5, 5}, panics{}}
	for _, err := range l {
		for _, code := range numbers() {
			if got, want := why.Is(err, code), fault.Has(err, code); got != want {
				t.Errorf("%#v: Is %d: %t, not %t", err, code, got, want)
			}
		}
	}
}

func TestP16_2OfShapesByChance(t *testing.T) {
	r := rand.New(rand.NewSource(16))
	for range 300 {
		f := shapeByChance(r, 5)
		mustAnswer(t, fmt.Sprintf("%+v", f), fault.Make(f), codes(f))
	}
}

// shapeByChance is a shape no deeper than that.
func shapeByChance(r *rand.Rand, depth int) api.Fault {
	if depth == 1 || r.Intn(3) == 0 {
		return api.Fault{Code: 1 + r.Intn([]int{3, 12, 1100}[r.Intn(3)])}
	}
	f := api.Fault{Op: strings.Repeat("o", depth)}
	for range 1 + r.Intn(2) {
		f.Kids = append(f.Kids, shapeByChance(r, depth-1))
	}
	return f
}

func TestP16_3EachCauseIsItsContextsError(t *testing.T) {
	for _, err := range []int{api.Canceled, api.Exceeded} {
		for _, cause := range numbers() {
			if e := why.Cause(err, cause); !why.Is(e, err) || !errors.Is(e, fault.Code{N: err}) {
				t.Errorf("Cause(%d, %d): %v", err, cause, e)
			}
			if e := why.Cause(err, cause); cause > 0 && !why.Is(e, cause) {
				t.Errorf("Cause(%d, %d): %v is not its cause", err, cause, e)
			}
		}
	}
}

func TestP16_3OfContexts(t *testing.T) {
	s := ctx.New(timer.New())
	s.Cancels(0)         // 1: cancelled with a cause
	s.Deadline(1, 30, 5) // 2: its time was over ahead of that
	s.Cancels(1)         // 3: cancelled with its parent
	s.Cancels(0)         // 4: cancelled without a cause
	s.Cancels(0)         // 5: not done
	s.Lapse(2)
	s.Cancel(1, 9)
	s.Cancel(4, 0)
	for id, want := range []string{"", "all: cause: code 9; code 1", "deadline: code 2", "all: cause: code 9; code 1", "code 1", ""} {
		code, _ := s.Err(id)
		cause, _ := s.Cause(id)
		e := why.Cause(code, cause)
		if got := why.Text(e); got != want {
			t.Errorf("%d: %q, not %q", id, got, want)
		}
		if got := why.Is(e, code); got != (want != "") {
			t.Errorf("%d: its cause is its error: %t", id, got)
		}
		if got := why.Timeout(e); got != (id == 2) {
			t.Errorf("%d: timeout: %t", id, got)
		}
	}
}

func TestP16NewMemory(t *testing.T) {
	for _, make := range []func() error{
		func() error { return why.Err(2) },
		func() error { return why.Cause(1, 9) },
		func() error { return why.Cause(2, 9) },
	} {
		before := why.Text(make())
		wrapped := make().(interface{ Unwrap() []error }).Unwrap()
		for i := range wrapped {
			wrapped[i] = errors.New("spoilt")
		}
		if got := why.Text(make()); got != before {
			t.Errorf("%q, and then %q", before, got)
		}
	}
}
