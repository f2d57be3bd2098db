package bench_test

import (
	"math"
	"slices"
	"testing"

	"handoff/api"
	"handoff/bench"
)

// one is what one does: its status, and whether it has a token.
type one struct {
	status int
	token  bool
}

// all are the six things that one may be.
func all() []one {
	return []one{{0, false}, {0, true}, {1, false}, {1, true}, {2, false}, {2, true}}
}

// told is a bench as the chapter's words say: a row of what each one does.
type told []one

func (w told) status(g int) int {
	if g < 0 || g >= len(w) {
		return 2
	}
	return w[g].status
}

func (w told) token(g int) bool {
	if g < 0 || g >= len(w) {
		return false
	}
	return w[g].token
}

func (w told) running() []int {
	var l []int
	for g, o := range w {
		if o.status == 0 {
			l = append(l, g)
		}
	}
	return l
}

func (w told) park(g int) bool {
	switch {
	case w.status(g) != 0:
		return false
	case w[g].token:
		w[g] = one{0, false}
		return false
	}
	w[g] = one{1, false}
	return true
}

func (w told) ready(g int) bool {
	switch {
	case w.status(g) == 1:
		w[g].status = 0
		return true
	case w.status(g) == 0 && !w.token(g):
		w[g].token = true
		return true
	}
	return false
}

func (w told) end(g int) bool {
	if w.status(g) != 0 {
		return false
	}
	w[g] = one{2, false}
	return true
}

func (w told) set(g, status int, token bool) bool {
	if g < 0 || g >= len(w) || status < 0 || status > 2 {
		return false
	}
	w[g] = one{status, token}
	return true
}

// fresh answers a new bench, which there must be, and what is told of it.
func fresh(t *testing.T, n int) (*bench.Bench, told) {
	t.Helper()
	b := bench.New(n)
	if b == nil {
		t.Fatalf("New(%d) is nil", n)
	}
	return b, make(told, n)
}

// of answers a bench of those that are so, and what is told of it.
func of(t *testing.T, ones ...one) (*bench.Bench, told) {
	t.Helper()
	b, w := fresh(t, len(ones))
	for g, o := range ones {
		sets(t, b, w, g, o.status, o.token)
	}
	holds(t, b, w)
	return b, w
}

// holds tells an error unless all that a bench tells is as it is told.
func holds(t *testing.T, b *bench.Bench, w told) {
	t.Helper()
	if n := b.Len(); n != len(w) {
		t.Errorf("Len is %d; want %d", n, len(w))
	}
	for g := -1; g <= len(w); g++ {
		if s := b.Status(g); s != w.status(g) {
			t.Errorf("Status(%d) is %d; want %d", g, s, w.status(g))
		}
		if k := b.Token(g); k != w.token(g) {
			t.Errorf("Token(%d) is %v; want %v", g, k, w.token(g))
		}
	}
	if l := b.Running(); !slices.Equal(l, w.running()) {
		t.Errorf("Running is %v; want %v", l, w.running())
	}
}

// parks tells an error unless Park answers as it is told.
func parks(t *testing.T, b *bench.Bench, w told, g int) {
	t.Helper()
	want := w.park(g)
	if ok := b.Park(g); ok != want {
		t.Errorf("Park(%d) is %v; want %v", g, ok, want)
	}
}

// readies tells an error unless Ready answers as it is told.
func readies(t *testing.T, b *bench.Bench, w told, g int) {
	t.Helper()
	want := w.ready(g)
	if ok := b.Ready(g); ok != want {
		t.Errorf("Ready(%d) is %v; want %v", g, ok, want)
	}
}

// ends tells an error unless End answers as it is told.
func ends(t *testing.T, b *bench.Bench, w told, g int) {
	t.Helper()
	want := w.end(g)
	if ok := b.End(g); ok != want {
		t.Errorf("End(%d) is %v; want %v", g, ok, want)
	}
}

// sets tells an error unless Set answers as it is told.
func sets(t *testing.T, b *bench.Bench, w told, g, status int, token bool) {
	t.Helper()
	want := w.set(g, status, token)
	if ok := b.Set(g, status, token); ok != want {
		t.Errorf("Set(%d, %d, %v) is %v; want %v", g, status, token, ok, want)
	}
}

// far are numbers that nobody has; cut to 8, 16 or 32 bits some of them would be right.
func far() []int {
	return []int{
		-1, -2, -64, -1 << 8, 1 - 1<<8, -1 << 16, 1 - 1<<16, -1 << 32, 1 - 1<<32, math.MinInt32, math.MinInt + 1, math.MinInt,
		1 << 13, 1<<13 + 1, 1 << 16, 1<<16 + 1, 1 << 32, 1<<32 + 1, math.MaxInt32, 1 << 62, math.MaxInt,
	}
}

func TestNew(t *testing.T) {
	for _, n := range []int{0, 1, 2, 3, 7, 8, 9, 63, 64, 65, 255, 256, 257, 4094, 4095, 4096} {
		b, w := fresh(t, n)
		holds(t, b, w)
	}
	for n := range api.MaxSlots + 1 {
		if got := bench.New(n).Len(); got != n {
			t.Errorf("Len of New(%d) is %d", n, got)
		}
	}
}

func TestNewOfFewerThanNone(t *testing.T) {
	for _, n := range []int{-1, -2, -4096, -1 << 8, 1 - 1<<8, math.MinInt32, 1 - 1<<32, math.MinInt + 1, math.MinInt} {
		b := bench.New(n)
		if b == nil {
			t.Fatalf("New(%d) is nil", n)
		}
		holds(t, b, nil)
	}
}

func TestNewOfTooMany(t *testing.T) {
	for _, n := range []int{4097, 4098, 1 << 13, 1 << 16, 1<<16 + 1, math.MaxInt32, 1 << 32, 1<<32 + 1, 1 << 62, math.MaxInt} {
		b := bench.New(n)
		if b == nil {
			t.Fatalf("New(%d) is nil", n)
		}
		holds(t, b, make(told, 4096))
	}
}

func TestTheChapter(t *testing.T) {
	b, w := fresh(t, 1)
	if !b.Ready(0) || b.Park(0) || b.Status(0) != api.Runs {
		t.Error("Ready, Park: it doesn't Run")
	}
	holds(t, b, w)
	if !b.Park(0) || !b.Ready(0) || b.Status(0) != api.Runs {
		t.Error("Park, Ready: it doesn't Run")
	}
	holds(t, b, w)
}

// What each call makes of one that is anyhow is written down here, one by one.
func TestEachCallOfEachOne(t *testing.T) {
	for _, c := range []struct {
		from        one
		park        one
		parkAnswer  bool
		ready       one
		readyAnswer bool
		end         one
		endAnswer   bool
	}{
		{one{0, false}, one{1, false}, true, one{0, true}, true, one{2, false}, true},
		{one{0, true}, one{0, false}, false, one{0, true}, false, one{2, false}, true},
		{one{1, false}, one{1, false}, false, one{0, false}, true, one{1, false}, false},
		{one{1, true}, one{1, true}, false, one{0, true}, true, one{1, true}, false},
		{one{2, false}, one{2, false}, false, one{2, false}, false, one{2, false}, false},
		{one{2, true}, one{2, true}, false, one{2, true}, false, one{2, true}, false},
	} {
		for _, n := range []int{1, 3, 9} {
			for g := range n {
				// The others are all that one may be: none of the calls touches them.
				others := make([]one, n)
				for i := range others {
					others[i] = all()[i%6]
				}
				others[g] = c.from
				b, w := of(t, others...)
				if ok := b.Park(g); ok != c.parkAnswer {
					t.Errorf("Park of %v is %v", c.from, ok)
				}
				w[g] = c.park
				holds(t, b, w)

				b, w = of(t, others...)
				if ok := b.Ready(g); ok != c.readyAnswer {
					t.Errorf("Ready of %v is %v", c.from, ok)
				}
				w[g] = c.ready
				holds(t, b, w)

				b, w = of(t, others...)
				if ok := b.End(g); ok != c.endAnswer {
					t.Errorf("End of %v is %v", c.from, ok)
				}
				w[g] = c.end
				holds(t, b, w)
			}
		}
	}
}

func TestSet(t *testing.T) {
	for _, from := range all() {
		for _, to := range all() {
			b, w := of(t, one{1, true}, from, one{0, false})
			if !b.Set(1, to.status, to.token) {
				t.Errorf("Set(1, %d, %v) of %v is false", to.status, to.token, from)
			}
			w[1] = to
			holds(t, b, w)
		}
	}
}

func TestSetToNoStatus(t *testing.T) {
	for _, from := range all() {
		b, w := of(t, from, from)
		for _, status := range append(far(), 3, 4, 255, 256, 257, 258) {
			for _, token := range []bool{false, true} {
				if b.Set(0, status, token) {
					t.Errorf("Set(0, %d, %v) is true", status, token)
				}
				holds(t, b, w)
			}
		}
	}
}

func TestNoSuchOne(t *testing.T) {
	for _, n := range []int{0, 1, 2, 8, 4096} {
		ones := make([]one, n)
		for g := range ones {
			ones[g] = all()[g%6]
		}
		b, w := of(t, ones...)
		for _, g := range append(far(), n, n+1) {
			if b.Park(g) || b.Ready(g) || b.End(g) || b.Token(g) {
				t.Errorf("of %d Park, Ready, End or Token of %d is true", n, g)
			}
			if s := b.Status(g); s != api.Ended {
				t.Errorf("of %d Status(%d) is %d", n, g, s)
			}
			for _, o := range all() {
				if b.Set(g, o.status, o.token) {
					t.Errorf("of %d Set(%d, %d, %v) is true", n, g, o.status, o.token)
				}
			}
			if b.Set(g, 3, true) || b.Set(g, -1, false) {
				t.Errorf("of %d Set of %d to no status is true", n, g)
			}
		}
		holds(t, b, w)
	}
}

func TestRunning(t *testing.T) {
	const n = 9
	for set := range 1 << n {
		b, w := fresh(t, n)
		for g := range n {
			if set>>g&1 == 0 {
				continue
			}
			if g%2 == 0 {
				parks(t, b, w, g)
			} else {
				ends(t, b, w, g)
			}
		}
		holds(t, b, w)
		// Whatever row they are made ready in, they are told rising.
		for _, g := range []int{4, 8, 1, 0, 2, 6} {
			readies(t, b, w, g)
			holds(t, b, w)
		}
	}
}

func TestRunningOfAll(t *testing.T) {
	b, w := fresh(t, 4096)
	for g := range 4096 {
		if g%2 == 0 {
			parks(t, b, w, g)
		}
	}
	holds(t, b, w)
	if l := b.Running(); len(l) != 2048 || l[0] != 1 || l[2047] != 4095 {
		t.Errorf("Running are %d", len(l))
	}
}

func TestRunningIsNewMemory(t *testing.T) {
	b, w := of(t, one{0, false}, one{1, false}, one{0, true}, one{2, false}, one{0, false})
	l, other := b.Running(), b.Running()
	whole := l[:cap(l)]
	for i := range whole {
		whole[i] = 77
	}
	if !slices.Equal(other, []int{0, 2, 4}) {
		t.Errorf("a list that was answered before is %v", other)
	}
	holds(t, b, w)
	again := b.Running()
	parks(t, b, w, 0)
	readies(t, b, w, 1)
	ends(t, b, w, 4)
	if !slices.Equal(again, []int{0, 2, 4}) {
		t.Errorf("what was answered is %v, behind other calls", again)
	}
	holds(t, b, w)
}

// One bench tells nothing of another one.
func TestTwoOfThem(t *testing.T) {
	b, w := of(t, one{0, false}, one{1, true}, one{0, true})
	c, v := of(t, one{1, false}, one{0, false}, one{2, false})
	parks(t, b, w, 0)
	readies(t, b, w, 1)
	ends(t, c, v, 1)
	readies(t, c, v, 0)
	holds(t, b, w)
	holds(t, c, v)
}

// Of one that is Readied once for each Park, ahead of it or behind it, it Runs behind both: of each row of ten such pairs.
func TestNoWakeupIsLost(t *testing.T) {
	const pairs = 10
	for row := range 1 << pairs {
		b, w := fresh(t, 3)
		b.Park(0)
		w[0] = one{1, false}
		for i := range pairs {
			if row>>i&1 == 0 {
				b.Park(1)
				b.Ready(1)
			} else {
				b.Ready(1)
				b.Park(1)
			}
			// No token is left of a pair: it would be one wakeup too many.
			holds(t, b, w)
		}
		if t.Failed() {
			t.Fatalf("row %d", row)
		}
	}
}

// Each row of two who are each parked and made ready three times, in which neither is parked, or made ready, twice ahead of the other call.
func TestNoWakeupOfTwoIsLost(t *testing.T) {
	var rows func(calls []int, ahead [2]int, left [4]int)
	rows = func(calls []int, ahead [2]int, left [4]int) {
		if len(calls) == 12 {
			b, w := fresh(t, 2)
			for _, c := range calls {
				if c%2 == 0 {
					b.Park(c / 2)
				} else {
					b.Ready(c / 2)
				}
			}
			holds(t, b, w)
			if t.Failed() {
				t.Fatalf("row %v", calls)
			}
			return
		}
		for c := range 4 {
			g, by := c/2, 1-c%2*2
			if left[c] == 0 || ahead[g]+by > 1 || ahead[g]+by < -1 {
				continue
			}
			now, rest := ahead, left
			now[g] += by
			rest[c]--
			rows(append(slices.Clone(calls), c), now, rest)
		}
	}
	rows(nil, [2]int{}, [4]int{3, 3, 3, 3})
}

// Every row of four calls on two, Sets among them, is as the chapter says.
func TestRowsOfCalls(t *testing.T) {
	type call struct {
		kind, g int
		to      one
	}
	var calls []call
	for g := range 2 {
		for kind := range 3 {
			calls = append(calls, call{kind: kind, g: g})
		}
		for _, to := range all() {
			calls = append(calls, call{3, g, to})
		}
	}
	const length = 4
	rows := 1
	for range length {
		rows *= len(calls)
	}
	for row := range rows {
		b, w := fresh(t, 2)
		for rest, i := row, 0; i < length; rest, i = rest/len(calls), i+1 {
			switch c := calls[rest%len(calls)]; c.kind {
			case 0:
				parks(t, b, w, c.g)
			case 1:
				readies(t, b, w, c.g)
			case 2:
				ends(t, b, w, c.g)
			default:
				sets(t, b, w, c.g, c.to.status, c.to.token)
			}
		}
		holds(t, b, w)
		if t.Failed() {
			t.Fatalf("row %d of calls", row)
		}
	}
}

// A long row of calls by rule, wrong ones among them.
func TestLongRow(t *testing.T) {
	b, w := fresh(t, 12)
	next := uint32(1)
	draw := func(n int) int {
		next = next*1664525 + 1013904223
		return int(next>>16) % n
	}
	for i := range 20000 {
		g := draw(len(w)+2) - 1
		switch draw(8) {
		case 0, 1, 2:
			parks(t, b, w, g)
		case 3, 4, 5:
			readies(t, b, w, g)
		case 6:
			ends(t, b, w, g)
		default:
			sets(t, b, w, g, draw(5)-1, draw(2) == 0)
		}
		holds(t, b, w)
		if t.Failed() {
			t.Fatalf("call %d", i)
		}
	}
}
