package fault_test

import (
	"errors"
	"fmt"
	"io/fs"
	"math"
	"strings"
	"testing"

	"handoff/api"
	"handoff/fault"
)

// panicking is a code of a panic, and what the chapter says of it.
type panicking struct {
	code int
	err  error
	text string
}

// panics are the three panics, in the chapter's order.
func panics() []panicking {
	return []panicking{
		{3, fault.ErrSend, "send on closed channel"},
		{4, fault.ErrClose, "close of closed channel"},
		{5, fault.ErrNil, "close of nil channel"},
	}
}

// noPanics are codes that tell of no panic; cut to 8, 16 or 32 bits some of them would.
func noPanics() []int {
	codes := []int{-1, 0, 1, 2, 6, 7, 8, 9, 30, 34, 45, -2, -3, -4, -5, math.MinInt32, math.MaxInt32, math.MinInt, math.MaxInt}
	for _, p := range panics() {
		for _, bits := range []int{8, 16, 32, 62, 63} {
			codes = append(codes, p.code+1<<bits, p.code-1<<bits)
		}
	}
	return codes
}

// numbers are numbers of goroutines and operations, wrong ones too.
func numbers() []int {
	return []int{0, 1, 2, 7, 10, 100, 4096, -1, -9, -10, math.MaxInt32, math.MinInt32, 1 << 32, -1 << 32, math.MaxInt, math.MinInt}
}

// text is an error of that text, of a type that can't be held against another one.
type text []string

func (e text) Error() string { return e[0] }

// wrap wraps an error, and tells nothing of it.
type wrap struct{ err error }

func (wrap) Error() string   { return "wrap" }
func (w wrap) Unwrap() error { return w.err }

// likes is an error that is, by its own Is, each of some.
type likes []error

func (likes) Error() string { return "likes" }
func (l likes) Is(target error) bool {
	for _, e := range l {
		if e == target {
			return true
		}
	}
	return false
}

// hands is an error that hands out, by its own As, a *Fault, or says so, if it has none.
type hands struct{ f *fault.Fault }

func (hands) Error() string { return "hands" }
func (h hands) As(target any) bool {
	to, ok := target.(**fault.Fault)
	if ok && h.f != nil {
		*to = h.f
	}
	return ok
}

// own is a Fault with an Error of its own.
type own struct{ *fault.Fault }

func (own) Error() string { return "own" }

// breaks is an error whose Error panics.
type breaks struct{}

func (*breaks) Error() string { panic("breaks") }

// is tells an error unless an error is that very one.
func is(t *testing.T, what string, err, want error) {
	t.Helper()
	if (err == nil) != (want == nil) || err != nil && err != want {
		t.Errorf("%s is %v; want %v", what, err, want)
	}
}

// says tells an error unless that is what an error tells.
func says(t *testing.T, err error, want string) {
	t.Helper()
	if err == nil {
		t.Errorf("no error; want %q", want)
	} else if s := err.Error(); s != want {
		t.Errorf("Error is %q; want %q", s, want)
	}
}

// hasCode tells an error unless that is an error's code.
func hasCode(t *testing.T, err error, want int) {
	t.Helper()
	if c := fault.Code(err); c != want {
		t.Errorf("Code of %v is %d; want %d", err, c, want)
	}
}

// stands tells an error unless whose operation it was is found so in an error.
func stands(t *testing.T, err error, g, op int, ok bool) {
	t.Helper()
	if g1, op1, ok1 := fault.Where(err); g1 != g || op1 != op || ok1 != ok {
		t.Errorf("Where of %v is %d, %d, %v; want %d, %d, %v", err, g1, op1, ok1, g, op, ok)
	}
}

func TestErrors(t *testing.T) {
	for i, p := range panics() {
		says(t, p.err, p.text)
		for k, q := range panics() {
			if errors.Is(p.err, q.err) != (i == k) {
				t.Errorf("%v is %v: %v", p.err, q.err, i != k)
			}
		}
		if u := errors.Unwrap(p.err); u != nil {
			t.Errorf("%v wraps %v", p.err, u)
		}
	}
	if api.ResSend != 3 || api.ResClose != 4 || api.ResNil != 5 {
		t.Error("the codes aren't those of package api")
	}
}

func TestTheChapter(t *testing.T) {
	says(t, fault.Of(4, 1, 2), "goroutine 1, operation 2: close of closed channel")
}

func TestOf(t *testing.T) {
	for _, p := range panics() {
		for _, g := range numbers() {
			for _, op := range numbers() {
				err := fault.Of(p.code, g, op)
				f, ok := err.(*fault.Fault)
				if !ok || f == nil {
					t.Fatalf("Of(%d, %d, %d) is %v", p.code, g, op, err)
				}
				if f.G != g || f.Op != op {
					t.Errorf("Of(%d, %d, %d) has %d, %d", p.code, g, op, f.G, f.Op)
				}
				is(t, "Err", f.Err, p.err)
				is(t, "Unwrap", errors.Unwrap(err), p.err)
				says(t, err, fmt.Sprintf("goroutine %d, operation %d: %s", g, op, p.text))
				hasCode(t, err, p.code)
				stands(t, err, g, op, true)
			}
		}
	}
}

func TestOfNoPanic(t *testing.T) {
	for _, code := range noPanics() {
		for _, n := range numbers() {
			is(t, fmt.Sprintf("Of(%d, %d, 1)", code, n), fault.Of(code, n, 1), nil)
			is(t, fmt.Sprintf("Of(%d, 1, %d)", code, n), fault.Of(code, 1, n), nil)
		}
	}
}

func TestOfIsNewMemory(t *testing.T) {
	for _, p := range panics() {
		a, b := fault.Of(p.code, 1, 2), fault.Of(p.code, 1, 2)
		f, ok := a.(*fault.Fault)
		if !ok || a == b {
			t.Fatalf("Of(%d, 1, 2) is %v, and again", p.code, a)
		}
		*f = fault.Fault{G: 8, Op: 9, Err: text{"x"}}
		for _, err := range []error{b, fault.Of(p.code, 1, 2)} {
			stands(t, err, 1, 2, true)
			hasCode(t, err, p.code)
			is(t, "Unwrap", errors.Unwrap(err), p.err)
		}
		says(t, p.err, p.text)
	}
}

func TestErrorIsNumbersAndWhatItWraps(t *testing.T) {
	for _, c := range []struct {
		f    fault.Fault
		want string
	}{
		{fault.Fault{Err: text{"x"}}, "goroutine 0, operation 0: x"},
		{fault.Fault{G: -1, Op: -20, Err: text{"x"}}, "goroutine -1, operation -20: x"},
		{fault.Fault{G: 7, Op: 15, Err: text{""}}, "goroutine 7, operation 15: "},
		{fault.Fault{G: 10, Op: 100, Err: text{"a: b\nc\x00\xff%d€ "}}, "goroutine 10, operation 100: a: b\nc\x00\xff%d€ "},
		{fault.Fault{G: math.MinInt, Op: math.MaxInt, Err: wrap{nil}}, "goroutine -9223372036854775808, operation 9223372036854775807: wrap"},
		{fault.Fault{G: 1, Op: 2, Err: errors.Join(fault.ErrNil, fault.ErrSend)}, "goroutine 1, operation 2: close of nil channel\nsend on closed channel"},
		{fault.Fault{G: 1, Op: 2, Err: &fault.Fault{G: 3, Op: 4, Err: fault.ErrClose}}, "goroutine 1, operation 2: goroutine 3, operation 4: close of closed channel"},
		{fault.Fault{G: 1, Op: 2, Err: fmt.Errorf("<%w>", fault.Of(5, 3, 4))}, "goroutine 1, operation 2: <goroutine 3, operation 4: close of nil channel>"},
		{fault.Fault{G: 1, Op: 2, Err: own{&fault.Fault{G: 3, Op: 4, Err: fault.ErrSend}}}, "goroutine 1, operation 2: own"},
	} {
		says(t, &c.f, c.want)
	}
}

func TestErrorOfErrorThatPanics(t *testing.T) {
	for _, err := range []error{&breaks{}, text(nil)} {
		says(t, &fault.Fault{G: 1, Op: 2, Err: err}, "goroutine 1, operation 2: ")
		says(t, &fault.Fault{G: 1, Op: 2, Err: &fault.Fault{G: 3, Op: 4, Err: err}}, "goroutine 1, operation 2: goroutine 3, operation 4: ")
	}
}

func TestUnwrapIsErr(t *testing.T) {
	inner := fault.Of(5, 0, 0)
	for _, err := range []error{fault.ErrSend, fault.ErrClose, fault.ErrNil, wrap{fault.ErrNil}, inner, &breaks{}} {
		f := fault.Fault{G: 3, Op: 4, Err: err}
		is(t, "Unwrap", f.Unwrap(), err)
		if f.G != 3 || f.Op != 4 {
			t.Errorf("Unwrap changed %v", f)
		}
		is(t, "Err", f.Err, err)
	}
	f := fault.Fault{}
	is(t, "Unwrap of none", f.Unwrap(), nil)
}

func TestCodeWhereverItStands(t *testing.T) {
	for _, p := range panics() {
		f := fault.Of(p.code, 1, 2)
		for _, err := range []error{
			p.err,
			wrap{p.err},
			wrap{wrap{f}},
			&fault.Fault{Err: f},
			&fault.Fault{G: -1, Op: p.code + 1, Err: wrap{p.err}},
			fmt.Errorf("x: %w", f),
			fmt.Errorf("%w, %w", text{"x"}, f),
			errors.Join(text{"x"}, wrap{errors.Join(text{"y"}, p.err)}, text{"z"}),
			likes{p.err},
			wrap{likes{p.err}},
		} {
			hasCode(t, err, p.code)
		}
	}
}

func TestCodeIsTheFirstOfTheRow(t *testing.T) {
	// Which of the three an error is, by bits.
	for which := range 8 {
		var all []error
		want := 0
		for i, p := range panics() {
			if which>>i&1 == 1 {
				all = append(all, p.err)
			}
		}
		for i, p := range panics() {
			if which>>i&1 == 1 {
				want = p.code
				break
			}
		}
		hasCode(t, likes(all), want)
		orders(all, func(row []error) {
			hasCode(t, errors.Join(row...), want)
			// Ahead of the others, and behind them, however deep.
			var chain error = text{"x"}
			for _, err := range row {
				chain = errors.Join(chain, fmt.Errorf("%w, %w", wrap{err}, chain))
			}
			hasCode(t, chain, want)
		})
	}
	hasCode(t, errors.Join(fault.Of(5, 1, 1), wrap{wrap{fault.Of(4, 2, 2)}}), 4)
	hasCode(t, errors.Join(fault.Of(5, 1, 1), fault.Of(4, 2, 2), wrap{wrap{fault.Of(3, 3, 3)}}), 3)
}

// orders calls f with each order of a row.
func orders(row []error, f func([]error)) {
	var more func(ahead, left []error)
	more = func(ahead, left []error) {
		if len(left) == 0 {
			f(ahead)
		}
		for i := range left {
			rest := append(append([]error{}, left[:i]...), left[i+1:]...)
			more(append(append([]error{}, ahead...), left[i]), rest)
		}
	}
	more(nil, row)
}

func TestCodeOfOthers(t *testing.T) {
	for _, err := range []error{
		nil,
		// Texts that are the same are no reason.
		errors.New("send on closed channel"),
		errors.New("close of closed channel"),
		errors.New("close of nil channel"),
		text{"send on closed channel"},
		&fault.Fault{G: 3, Op: 3, Err: errors.New("send on closed channel")},
		fmt.Errorf("not wrapped: %v", fault.ErrSend),
		text(nil),
		wrap{nil},
		wrap{wrap{text{"x"}}},
		likes{},
		likes{fs.ErrExist},
		errors.Join(text{"x"}, wrap{nil}),
		hands{&fault.Fault{G: 1, Op: 2, Err: fault.ErrSend}},
		&breaks{},
	} {
		hasCode(t, err, 0)
	}
}

func TestWhere(t *testing.T) {
	for _, g := range numbers() {
		for _, op := range numbers() {
			f := &fault.Fault{G: g, Op: op, Err: text{"x"}}
			for _, err := range []error{
				f,
				wrap{f},
				wrap{wrap{wrap{f}}},
				fmt.Errorf("x: %w", f),
				errors.Join(text{"x"}, wrap{f}),
				hands{f},
				wrap{hands{f}},
			} {
				stands(t, err, g, op, true)
			}
		}
	}
}

func TestWhereIsTheOneThatAsFinds(t *testing.T) {
	one, two := fault.Of(3, 1, 2), fault.Of(5, 3, 4)
	stands(t, &fault.Fault{G: 5, Op: 6, Err: one}, 5, 6, true)
	stands(t, wrap{&fault.Fault{G: 5, Op: 6, Err: wrap{one}}}, 5, 6, true)
	stands(t, errors.Join(one, two), 1, 2, true)
	stands(t, errors.Join(two, one), 3, 4, true)
	stands(t, errors.Join(wrap{wrap{two}}, one), 3, 4, true)
	stands(t, errors.Join(fault.ErrSend, errors.Join(two), one), 3, 4, true)
	stands(t, fmt.Errorf("%w, %w", fault.ErrNil, one), 1, 2, true)
	stands(t, &fault.Fault{Err: one}, 0, 0, true)
}

func TestWhereOfOthers(t *testing.T) {
	for _, err := range []error{
		nil, fault.ErrSend, fault.ErrClose, fault.ErrNil, errors.New("goroutine 1, operation 2: x"), text{"x"}, text(nil), wrap{nil},
		wrap{fault.ErrNil}, errors.Join(fault.ErrSend, text{"x"}), likes{fault.ErrSend}, fmt.Errorf("not wrapped: %v", fault.Of(3, 1, 2)), &breaks{},
		// It says that it found one, and hands out none.
		hands{nil}, wrap{hands{nil}},
	} {
		stands(t, err, 0, 0, false)
	}
}

func TestMust(t *testing.T) {
	for _, c := range []struct {
		code int
		done bool
		err  error
	}{
		{api.ResDone, true, nil}, {api.ResNo, false, nil}, {api.ResNone, false, nil}, {api.ResFull, false, nil},
		{1, true, nil}, {2, false, nil}, {3, false, fault.ErrSend}, {4, false, fault.ErrClose}, {5, false, fault.ErrNil}, {6, false, nil}, {7, false, nil},
		{0, false, nil}, {8, false, nil}, {-1, false, nil}, {1 + 1<<8, false, nil}, {1 + 1<<16, false, nil}, {1 + 1<<32, false, nil}, {1 - 1<<63, false, nil},
	} {
		done, err := fault.Must(c.code)
		if done != c.done {
			t.Errorf("Must(%d) is %v", c.code, done)
		}
		is(t, fmt.Sprintf("Must(%d)", c.code), err, c.err)
	}
	for _, code := range noPanics() {
		done, err := fault.Must(code)
		if done != (code == 1) {
			t.Errorf("Must(%d) is %v", code, done)
		}
		is(t, fmt.Sprintf("Must(%d)", code), err, nil)
	}
}

func TestManyFaultsWithinEachOther(t *testing.T) {
	const many = 1 << 18
	err := fault.Of(4, 1, 2)
	for range many {
		err = &fault.Fault{G: 3, Op: 4, Err: err}
	}
	if s := err.Error(); s != strings.Repeat("goroutine 3, operation 4: ", many)+"goroutine 1, operation 2: close of closed channel" {
		t.Errorf("Error has %d bytes", len(s))
	}
	if c := fault.Code(err); c != 4 {
		t.Errorf("Code is %d", c)
	}
	if g, op, ok := fault.Where(err); g != 3 || op != 4 || !ok {
		t.Errorf("Where is %d, %d, %v", g, op, ok)
	}
}

// What is asked of an error changes nothing in it, and is the same however often, and after whatever else.
func TestAskingChangesNothing(t *testing.T) {
	f := &fault.Fault{G: 5, Op: 6, Err: fault.ErrClose}
	for range 3 {
		hasCode(t, f, 4)
		stands(t, f, 5, 6, true)
		says(t, f, "goroutine 5, operation 6: close of closed channel")
		is(t, "Err", f.Err, fault.ErrClose)
		fault.Of(3, 7, 8)
		fault.Must(5)
	}
	f.G, f.Op, f.Err = 1, 2, fault.ErrNil
	hasCode(t, f, 5)
	stands(t, f, 1, 2, true)
	says(t, f, "goroutine 1, operation 2: close of nil channel")
}
