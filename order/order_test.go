package order_test

import (
	"math"
	"slices"
	"testing"

	"handoff/order"
)

// lists gives do each list of n numbers from low to high.
func lists(n, low, high int, do func(l []int)) {
	l := make([]int, n)
	var fill func(i int)
	fill = func(i int) {
		if i == n {
			do(l)
			return
		}
		for x := low; x <= high; x++ {
			l[i] = x
			fill(i + 1)
		}
	}
	fill(0)
}

// mixed answers numbers of all sizes and signs, the same ones in each run; many of the small ones are there more than once.
func mixed(n int) []int {
	l := make([]int, n)
	x := uint64(1)
	for i := range l {
		x = x*6364136223846793005 + 1442695040888963407
		l[i] = int(x) >> (x >> 58)
	}
	return l
}

// long answers lists of many numbers, of kinds that a sort may stumble over.
func long() [][]int {
	n := 1 << 15
	rising, falling, saw, same := make([]int, n), make([]int, n), make([]int, n+1), make([]int, n-1)
	for i := range n {
		rising[i] = i - n/2
		falling[i] = n/2 - i
		saw[i] = i % 7
	}
	return [][]int{rising, falling, saw, same, mixed(n), mixed(n - 1)}
}

// sorts tells an error unless Sort of the list is as the promise says: none below the one ahead, and the same numbers, each as often.
func sorts(t *testing.T, l []int) {
	t.Helper()
	s := order.Sort(l)
	for i := 1; i < len(s); i++ {
		if s[i] < s[i-1] {
			t.Fatalf("Sort: at %d %d is behind %d", i, s[i], s[i-1])
		}
	}
	often := map[int]int{}
	for _, x := range l {
		often[x]++
	}
	for _, x := range s {
		often[x]--
	}
	for x, c := range often {
		if c != 0 {
			t.Fatalf("Sort: %d is there %d times less often than it was", x, c)
		}
	}
}

// is tells an error unless the list, an answer of the named call, is want.
func is(t *testing.T, name string, of, l, want []int) {
	t.Helper()
	if !slices.Equal(l, want) {
		t.Errorf("%s(%v) is %v; want %v", name, of, l, want)
	}
}

func TestSort(t *testing.T) {
	const low, high = math.MinInt, math.MaxInt
	for _, c := range [][2][]int{
		{nil, nil}, {{}, nil}, {make([]int, 0, 8), nil},
		{{0}, {0}}, {{low}, {low}}, {{high}, {high}}, {{-5}, {-5}},
		{{1, 2}, {1, 2}}, {{2, 1}, {1, 2}}, {{2, 2}, {2, 2}},
		{{3, 1, 2}, {1, 2, 3}}, {{2, 2, 1, 2}, {1, 2, 2, 2}}, {{1, 2, 2, 1, 1}, {1, 1, 1, 2, 2}},
		{{0, -1, 1, -2, 2}, {-2, -1, 0, 1, 2}},
		{{high, low, 0, high, low}, {low, low, 0, high, high}},
		{{low, high}, {low, high}}, {{high, low}, {low, high}},
		{{low + 1, low, high, high - 1}, {low, low + 1, high - 1, high}},
		// Cut to 32 bits these would stand otherwise.
		{{1 << 32, 1, -1 << 32, -1, 1<<32 + 1, 1 << 31}, {-1 << 32, -1, 1, 1 << 31, 1 << 32, 1<<32 + 1}},
	} {
		is(t, "Sort", c[0], order.Sort(c[0]), c[1])
	}
}

func TestSortOfAllSmallLists(t *testing.T) {
	for n := range 7 {
		lists(n, -2, 2, func(l []int) { sorts(t, l) })
	}
	lists(9, 0, 2, func(l []int) { sorts(t, l) })
}

func TestSortOfEachLength(t *testing.T) {
	l := mixed(300)
	for n := range l {
		sorts(t, l[:n])
	}
}

func TestSortOfLongLists(t *testing.T) {
	for _, l := range long() {
		sorts(t, l)
	}
}

func TestHeap(t *testing.T) {
	const low, high = math.MinInt, math.MaxInt
	for _, c := range []struct {
		l    []int
		want bool
	}{
		{nil, true}, {[]int{}, true}, {make([]int, 0, 8), true},
		{[]int{0}, true}, {[]int{low}, true}, {[]int{high}, true}, {[]int{-1}, true},
		{[]int{2, 1}, true}, {[]int{1, 1}, true}, {[]int{1, 2}, false},
		{[]int{0, -1}, true}, {[]int{-1, 0}, false}, {[]int{-1, -1}, true},
		{[]int{3, 1, 2}, true}, {[]int{3, 2, 1}, true}, {[]int{3, 3, 3}, true},
		{[]int{2, 3, 1}, false}, {[]int{2, 1, 3}, false},
		// Each place but the first is too great, one by one.
		{[]int{9, 7, 8, 5, 4, 6, 3}, true},
		{[]int{9, 10, 8, 5, 4, 6, 3}, false}, {[]int{9, 7, 10, 5, 4, 6, 3}, false},
		{[]int{9, 7, 8, 8, 4, 6, 3}, false}, {[]int{9, 7, 8, 5, 8, 6, 3}, false},
		{[]int{9, 7, 8, 5, 4, 9, 3}, false}, {[]int{9, 7, 8, 5, 4, 6, 9}, false},
		// As great as what is above, each one.
		{[]int{9, 9, 8, 5, 4, 6, 3}, true}, {[]int{9, 7, 9, 5, 4, 6, 3}, true},
		{[]int{9, 7, 8, 7, 4, 6, 3}, true}, {[]int{9, 7, 8, 5, 7, 6, 3}, true},
		{[]int{9, 7, 8, 5, 4, 8, 3}, true}, {[]int{9, 7, 8, 5, 4, 6, 8}, true},
		// Greater than the one ahead, but not than the one above.
		{[]int{9, 1, 8, 0, 1, 7, 8}, true},
		{[]int{high, low, high, low, low, high, 0}, true}, {[]int{low, high}, false}, {[]int{high, low}, true},
		{[]int{high, low, high, low + 1}, false},
		{[]int{1, 1 << 32}, false}, {[]int{1 << 32, 1}, true}, {[]int{-1 << 32, -1}, false},
		{[]int{1, 2}[:1], true},
	} {
		if order.Heap(c.l) != c.want {
			t.Errorf("Heap(%v) is %v", c.l, !c.want)
		}
	}
}

// underNone: is no number of the list above one of those that are above its place, up to the first one?
func underNone(l []int) bool {
	var holds func(at, most int) bool
	holds = func(at, most int) bool {
		return at >= len(l) || l[at] <= most && holds(2*at+1, l[at]) && holds(2*at+2, l[at])
	}
	return holds(0, math.MaxInt)
}

func TestHeapOfAllSmallLists(t *testing.T) {
	for n := range 8 {
		lists(n, -1, 2, func(l []int) {
			if h := order.Heap(l); h != underNone(l) {
				t.Errorf("Heap(%v) is %v", l, h)
			}
		})
	}
}

func TestHeapOfLongLists(t *testing.T) {
	for _, l := range long() {
		if h := order.Heap(l); h != underNone(l) {
			t.Error("Heap is", h)
		}
		s := order.Turned(order.Sort(l))
		if !order.Heap(s) {
			t.Error("a list that falls is no heap")
		}
		for _, at := range []int{1, 2, 3, len(s) / 2, len(s) - 2, len(s) - 1} {
			was := s[at]
			s[at] = s[(at-1)/2] + 1
			if order.Heap(s) {
				t.Errorf("a heap, though at %d it is too great", at)
			}
			s[at] = was
		}
	}
}

func TestLocks(t *testing.T) {
	const low, high = math.MinInt, math.MaxInt
	for _, c := range [][2][]int{
		{{3, 0, 1, 3}, {1, 3}},
		{nil, nil}, {{}, nil}, {make([]int, 0, 8), nil},
		{{0}, nil}, {{-1}, nil}, {{low}, nil}, {{0, 0}, nil}, {{0, -1}, nil}, {{-1, -1, low, 0}, nil},
		{{1}, {1}}, {{high}, {high}}, {{1, 0}, {1}}, {{0, 1}, {1}}, {{-1, 1}, {1}}, {{1, -1}, {1}},
		{{4, 4, 4}, {4}}, {{2, 1}, {1, 2}}, {{1, 2}, {1, 2}}, {{2, 1, 2, 1}, {1, 2}},
		{{3, 0, 1, 3, 2, -7}, {1, 2, 3}}, {{8, 7, 6, 5, 4, 3, 2, 1, 0}, {1, 2, 3, 4, 5, 6, 7, 8}},
		{{high, low, high, 1, high - 1, 0}, {1, high - 1, high}},
		{{1<<32 + 1, 1, 1 << 32, 1 << 31}, {1, 1 << 31, 1 << 32, 1<<32 + 1}},
		{{-1 << 32, 1 - 1<<32, 5}, {5}},
	} {
		is(t, "Locks", c[0], order.Locks(c[0]), c[1])
	}
}

// above0 answers which numbers above 0 are in the list, rising.
func above0(l []int) []int {
	var found []int
	in := map[int]bool{}
	for _, x := range l {
		if x > 0 && !in[x] {
			in[x] = true
			found = append(found, x)
		}
	}
	slices.Sort(found)
	return found
}

func TestLocksOfAllSmallLists(t *testing.T) {
	for n := range 7 {
		lists(n, -1, 3, func(l []int) {
			is(t, "Locks", l, order.Locks(l), above0(l))
		})
	}
}

func TestLocksOfLongLists(t *testing.T) {
	for i, l := range long() {
		if !slices.Equal(order.Locks(l), above0(l)) {
			t.Error("Locks of long list", i)
		}
	}
}

func TestTurned(t *testing.T) {
	for _, c := range [][2][]int{
		{nil, nil}, {{}, nil}, {make([]int, 0, 8), nil},
		{{0}, {0}}, {{-7}, {-7}}, {{1, 2}, {2, 1}}, {{1, 2, 3}, {3, 2, 1}}, {{1, 2, 3, 4}, {4, 3, 2, 1}},
		// As they stand, not sorted, and none left out.
		{{2, 0, 2, -1, 0}, {0, -1, 2, 0, 2}}, {{5, 5}, {5, 5}},
		{{math.MinInt, 0, math.MaxInt}, {math.MaxInt, 0, math.MinInt}},
		{[]int{1, 2, 3}[:2], {2, 1}},
	} {
		is(t, "Turned", c[0], order.Turned(c[0]), c[1])
	}
}

func TestTurnedOfAllLengths(t *testing.T) {
	row := mixed(300)
	for n := range row {
		l := row[:n]
		turned := order.Turned(l)
		if len(turned) != n {
			t.Fatalf("Turned of %d has %d", n, len(turned))
		}
		for i, x := range turned {
			if x != l[n-1-i] {
				t.Fatalf("Turned of %d has %d at %d", n, x, i)
			}
		}
		is(t, "Turned", turned, order.Turned(turned), l)
	}
}

func TestTurnedLocksFall(t *testing.T) {
	is(t, "Turned of Locks", []int{3, 0, 1, 3}, order.Turned(order.Locks([]int{3, 0, 1, 3})), []int{3, 1})
}

// calls are the calls that answer lists, by their names.
func calls() map[string]func(l []int) []int {
	return map[string]func(l []int) []int{"Sort": order.Sort, "Locks": order.Locks, "Turned": order.Turned}
}

func TestListsAreNotChanged(t *testing.T) {
	row := []int{9, 1, 4, 0, 3, 4, -7, 6}
	was := slices.Clone(row)
	for _, l := range [][]int{row[2:6], row[2:3], row[1:], row[:0], row[2:6:6], row} {
		for name, call := range calls() {
			call(l)
			order.Heap(l)
			if !slices.Equal(row, was) {
				t.Fatalf("%s: the list, with what stands around it, is %v", name, row)
			}
		}
	}
}

func TestAnswersAreNewMemory(t *testing.T) {
	// Sorted lists, and those that read alike both ways, are their own answers: those too are new.
	for _, row := range [][]int{{3, 0, 1, 3, 8, 8}, {1, 2, 3, 4, 5, 6}, {2, 2, 2, 2, 2, 2}, {0, 0, 0, 0, 0, 0}} {
		was := slices.Clone(row)
		for _, l := range [][]int{row[:4], row[:1], row[:0], row} {
			for name, call := range calls() {
				first := call(l)
				want := slices.Clone(first)
				first = first[:cap(first)]
				for i := range first {
					first[i] = -9
				}
				if !slices.Equal(row, was) {
					t.Fatalf("%s: the list is %v; was %v", name, row, was)
				}
				is(t, name, l, call(l), want)
			}
		}
	}
}

func TestListsAreNotKept(t *testing.T) {
	for name, call := range calls() {
		l := []int{3, 5, 1, 3}
		a := call(l)
		was := slices.Clone(a)
		clear(l)
		is(t, name, l, a, was)
	}
}
