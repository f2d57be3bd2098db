package latch_test

import (
	"math"
	"slices"
	"testing"

	"handoff/api"
	"handoff/latch"
)

// told is locks as the chapter's words say: how many there are, and who has which one; those that nobody has aren't in it.
type told struct {
	n   int
	has map[int]int
}

func (w told) is(l int) bool { return l >= 0 && l < w.n }

func (w told) try(l, who int) bool {
	_, taken := w.has[l]
	if !w.is(l) || who < 0 || taken {
		return false
	}
	w.has[l] = who
	return true
}

func (w told) free(l, who int) bool {
	owner, taken := w.has[l]
	if !w.is(l) || who < 0 || !taken || owner != who {
		return false
	}
	delete(w.has, l)
	return true
}

func (w told) owner(l int) int {
	if who, taken := w.has[l]; taken {
		return who
	}
	return -1
}

func (w told) held(who int) []int {
	var l []int
	for k, owner := range w.has {
		if owner == who {
			l = append(l, k)
		}
	}
	slices.Sort(l)
	return l
}

// fresh answers new locks, which there must be, and what is told of them.
func fresh(t *testing.T, n int) (*latch.Latches, told) {
	t.Helper()
	x := latch.New(n)
	if x == nil {
		t.Fatalf("New(%d) is nil", n)
	}
	return x, told{n, map[int]int{}}
}

// of answers locks that those have, and what is told of them: who is -1 has none.
func of(t *testing.T, owners ...int) (*latch.Latches, told) {
	t.Helper()
	x, w := fresh(t, len(owners))
	for l, who := range owners {
		if who < 0 {
			continue
		}
		tries(t, x, w, l, who)
		if w.has[l] != who {
			t.Fatalf("Try(%d, %d) isn't told", l, who)
		}
	}
	holds(t, x, w)
	return x, w
}

// holds tells an error unless all that locks tell is as it is told.
func holds(t *testing.T, x *latch.Latches, w told) {
	t.Helper()
	if n := x.Len(); n != w.n {
		t.Errorf("Len is %d; want %d", n, w.n)
	}
	whos := map[int]bool{-1: true, 0: true, 1: true}
	for l := -1; l <= w.n; l++ {
		want := w.owner(l)
		if who := x.Owner(l); who != want {
			t.Errorf("Owner(%d) is %d; want %d", l, who, want)
		}
		whos[want] = true
	}
	for who := range whos {
		if l := x.Held(who); !slices.Equal(l, w.held(who)) {
			t.Errorf("Held(%d) is %v; want %v", who, l, w.held(who))
		}
	}
}

// tries tells an error unless Try answers as it is told.
func tries(t *testing.T, x *latch.Latches, w told, l, who int) {
	t.Helper()
	want := w.try(l, who)
	if ok := x.Try(l, who); ok != want {
		t.Errorf("Try(%d, %d) is %v; want %v", l, who, ok, want)
	}
}

// frees tells an error unless Free answers as it is told.
func frees(t *testing.T, x *latch.Latches, w told, l, who int) {
	t.Helper()
	want := w.free(l, who)
	if ok := x.Free(l, who); ok != want {
		t.Errorf("Free(%d, %d) is %v; want %v", l, who, ok, want)
	}
}

// far are numbers that no lock has; cut to 8, 16 or 32 bits some of them would be right.
func far() []int {
	return []int{
		1 << 13, 1<<13 + 1, 1 << 16, 1<<16 + 1, 1 << 32, 1<<32 + 1, -1 << 32, 1 - 1<<32, math.MaxInt32, math.MinInt32, math.MaxInt, math.MinInt,
		1 << 62,
	}
}

// below are numbers of nobody.
func below() []int {
	return []int{-1, -2, -3, -64, -1 << 8, 1 - 1<<8, -1 << 16, 1 - 1<<16, math.MinInt32, -1 << 32, 1 - 1<<32, math.MinInt + 1, math.MinInt}
}

// above are numbers of some that are great, two of which are the same if they are cut to fewer bits.
func above() []int {
	return []int{0, 1, 7, 8, 255, 256, 1 << 16, api.MaxSlots, math.MaxInt32, 1 << 32, 1<<32 + 1, 1 << 62, math.MaxInt}
}

func TestNew(t *testing.T) {
	for _, n := range []int{0, 1, 2, 3, 7, 8, 9, 63, 64, 65, 255, 256, 257, 4094, 4095, 4096} {
		x, w := fresh(t, n)
		holds(t, x, w)
	}
	for n := range api.MaxSlots + 1 {
		if got := latch.New(n).Len(); got != n {
			t.Errorf("Len of New(%d) is %d", n, got)
		}
	}
}

func TestNewOfFewerThanNone(t *testing.T) {
	for _, n := range below() {
		x, _ := fresh(t, n)
		holds(t, x, told{0, nil})
	}
}

func TestNewOfTooMany(t *testing.T) {
	for _, n := range []int{4097, 4098, 1 << 13, 1 << 16, 1<<16 + 1, math.MaxInt32, 1 << 32, 1<<32 + 1, 1 << 62, math.MaxInt} {
		x, _ := fresh(t, n)
		holds(t, x, told{4096, nil})
	}
}

func TestTheChapter(t *testing.T) {
	x, w := fresh(t, 1)
	if !x.Try(0, 3) {
		t.Error("Try of 0 by 3 is false")
	}
	if x.Try(0, 3) {
		t.Error("again, by 3: true")
	}
	if !x.Free(0, 3) {
		t.Error("Free by 3 is false")
	}
	holds(t, x, w)
}

func TestAdd(t *testing.T) {
	x, w := fresh(t, 0)
	for l := range 40 {
		if n := x.Add(); n != l {
			t.Errorf("Add is %d; want %d", n, l)
		}
		w.n++
		holds(t, x, w)
		tries(t, x, w, l, l%3)
		holds(t, x, w)
	}
}

func TestAddUpToAll(t *testing.T) {
	x, w := fresh(t, 4090)
	tries(t, x, w, 4089, 2)
	for l := 4090; l < 4096; l++ {
		if n := x.Add(); n != l || x.Owner(l) != -1 {
			t.Errorf("Add is %d, whose owner is %d; want %d", n, x.Owner(l), l)
		}
		w.n++
	}
	tries(t, x, w, 4095, 2)
	for range 3 {
		if n := x.Add(); n != -1 {
			t.Errorf("Add is %d", n)
		}
		holds(t, x, w)
	}
	frees(t, x, w, 4095, 2)
	frees(t, x, w, 4089, 2)
	if n := x.Add(); n != -1 {
		t.Errorf("Add is %d", n)
	}
	holds(t, x, w)
}

// Nobody has what is added, whoever has others, and had any.
func TestAddOfThoseThatSomeHave(t *testing.T) {
	x, w := of(t, 4, -1, 0, 4)
	if n := x.Add(); n != 4 {
		t.Errorf("Add is %d", n)
	}
	w.n++
	holds(t, x, w)
	for _, who := range []int{4, 0} {
		tries(t, x, w, 4, who)
		holds(t, x, w)
	}
}

func TestTryAndFreeOfEach(t *testing.T) {
	for n := 1; n <= 20; n++ {
		for l := range n {
			x, w := fresh(t, n)
			if !x.Try(l, 5) || !w.try(l, 5) {
				t.Errorf("of %d locks Try of %d is false", n, l)
			}
			holds(t, x, w)
			if x.Try(l, 5) || x.Try(l, 6) || x.Try(l, 0) || x.Try(l, -1) {
				t.Errorf("of %d locks a second Try of %d is true", n, l)
			}
			if x.Free(l, 6) || x.Free(l, 0) || x.Free(l, -1) {
				t.Errorf("of %d locks a Free of %d by others is true", n, l)
			}
			holds(t, x, w)
			if !x.Free(l, 5) || !w.free(l, 5) || x.Free(l, 5) {
				t.Errorf("of %d locks Free of %d isn't true once", n, l)
			}
			holds(t, x, w)
			tries(t, x, w, l, 6)
			holds(t, x, w)
		}
	}
}

func TestNoSuchLock(t *testing.T) {
	for _, n := range []int{0, 1, 2, 8, 4096} {
		owners := make([]int, n)
		for l := range owners {
			owners[l] = l%3 - 1
		}
		x, w := of(t, owners...)
		for _, l := range slices.Concat(below(), far(), []int{n, n + 1}) {
			for _, who := range []int{0, 1, 2, -1, l} {
				if x.Try(l, who) || x.Free(l, who) {
					t.Errorf("of %d locks Try or Free of %d by %d is true", n, l, who)
				}
			}
			if who := x.Owner(l); who != -1 {
				t.Errorf("of %d locks Owner(%d) is %d", n, l, who)
			}
		}
		holds(t, x, w)
	}
}

// What a Try found no lock for isn't kept for the lock that comes to be later.
func TestNoSuchLockYet(t *testing.T) {
	x, w := fresh(t, 1)
	for l := 1; l < 5; l++ {
		tries(t, x, w, l, 3)
	}
	for range 4 {
		x.Add()
		w.n++
		holds(t, x, w)
	}
}

func TestBelowNobody(t *testing.T) {
	x, w := of(t, 0, -1, 1, -1)
	for _, who := range below() {
		for l := -1; l <= 4; l++ {
			if x.Try(l, who) {
				t.Errorf("Try(%d, %d) is true", l, who)
			}
			if x.Free(l, who) {
				t.Errorf("Free(%d, %d) is true", l, who)
			}
		}
		if l := x.Held(who); len(l) != 0 {
			t.Errorf("Held(%d) is %v", who, l)
		}
		holds(t, x, w)
	}
}

func TestGreatOwners(t *testing.T) {
	x, w := of(t, above()...)
	for l, who := range above() {
		if o := x.Owner(l); o != who {
			t.Errorf("Owner(%d) is %d; want %d", l, o, who)
		}
		if h := x.Held(who); !slices.Equal(h, []int{l}) {
			t.Errorf("Held(%d) is %v; want %d", who, h, l)
		}
		for _, other := range above() {
			if other != who && x.Free(l, other) {
				t.Errorf("Free(%d, %d) of what %d has is true", l, other, who)
			}
		}
	}
	holds(t, x, w)
	for l, who := range above() {
		frees(t, x, w, l, who)
		holds(t, x, w)
	}
}

// One may have any locks; whatever row it took them in, they are told rising.
func TestHeld(t *testing.T) {
	row := []int{3, 0, 5, 1, 4, 2}
	x, w := fresh(t, 6)
	for _, l := range row {
		tries(t, x, w, l, 9)
		holds(t, x, w)
	}
	if h := x.Held(9); !slices.Equal(h, []int{0, 1, 2, 3, 4, 5}) {
		t.Errorf("Held(9) is %v", h)
	}
	for _, l := range row {
		frees(t, x, w, l, 9)
		holds(t, x, w)
	}
	if h := x.Held(9); len(h) != 0 {
		t.Errorf("Held(9) of none is %v", h)
	}
}

func TestHeldOfAll(t *testing.T) {
	x, w := fresh(t, 4096)
	for l := range 4096 {
		tries(t, x, w, l, l%2)
	}
	holds(t, x, w)
	if a, b := x.Held(0), x.Held(1); len(a) != 2048 || len(b) != 2048 || a[2047] != 4094 || b[2047] != 4095 {
		t.Errorf("Held of two who have all: %d and %d locks", len(a), len(b))
	}
}

func TestHeldIsNewMemory(t *testing.T) {
	x, w := of(t, 2, -1, 2, 2, 0)
	l, other := x.Held(2), x.Held(2)
	whole := l[:cap(l)]
	for i := range whole {
		whole[i] = 77
	}
	if !slices.Equal(other, []int{0, 2, 3}) {
		t.Errorf("a list that was answered before is %v", other)
	}
	holds(t, x, w)
	again := x.Held(2)
	tries(t, x, w, 1, 2)
	frees(t, x, w, 0, 2)
	if !slices.Equal(again, []int{0, 2, 3}) {
		t.Errorf("what was answered is %v, behind other calls", again)
	}
	holds(t, x, w)
}

// Locks of one New tell nothing of another one's.
func TestTwoOfThem(t *testing.T) {
	x, w := of(t, 1, -1, 2)
	y, v := of(t, -1, 3, -1)
	tries(t, x, w, 1, 0)
	frees(t, y, v, 1, 3)
	y.Add()
	v.n++
	holds(t, x, w)
	holds(t, y, v)
}

// Every row of five calls on two locks, by who is -1, 0 or 1, and Adds among them, is as the chapter says.
func TestRowsOfCalls(t *testing.T) {
	type call struct {
		kind, l, who int
	}
	calls := []call{{kind: 2}}
	for l := range 2 {
		for who := -1; who <= 1; who++ {
			calls = append(calls, call{0, l, who}, call{1, l, who})
		}
	}
	const length = 5
	rows := 1
	for range length {
		rows *= len(calls)
	}
	for row := range rows {
		x, w := fresh(t, 1)
		for rest, i := row, 0; i < length; rest, i = rest/len(calls), i+1 {
			c := calls[rest%len(calls)]
			switch c.kind {
			case 0:
				tries(t, x, w, c.l, c.who)
			case 1:
				frees(t, x, w, c.l, c.who)
			default:
				if l := x.Add(); l != w.n {
					t.Errorf("Add is %d; want %d", l, w.n)
				}
				w.n++
			}
		}
		holds(t, x, w)
		if t.Failed() {
			t.Fatalf("row %d of calls", row)
		}
	}
}

// A long row of calls by rule, on locks that become more.
func TestLongRow(t *testing.T) {
	x, w := fresh(t, 5)
	next := uint32(1)
	draw := func(n int) int {
		next = next*1664525 + 1013904223
		return int(next>>16) % n
	}
	for i := range 20000 {
		l, who := draw(w.n+2)-1, draw(6)-1
		if draw(2) == 0 {
			tries(t, x, w, l, who)
		} else {
			if draw(3) > 0 {
				who = x.Owner(l)
			}
			frees(t, x, w, l, who)
		}
		if i%1000 == 999 {
			x.Add()
			w.n++
		}
		if i%7 == 0 {
			holds(t, x, w)
		}
		if t.Failed() {
			t.Fatalf("call %d", i)
		}
	}
}
