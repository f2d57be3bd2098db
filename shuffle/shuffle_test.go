package shuffle_test

import (
	"math"
	"slices"
	"testing"

	"handoff/shuffle"
)

// asWritten makes the order as the chapter's words say: of the draws but the last one, then one more.
func asWritten(draws []int) []int {
	n := len(draws)
	if n == 0 {
		return nil
	}
	order := append(asWritten(draws[:n-1]), n-1)
	at := (draws[n-1]%n + n) % n
	order[at], order[n-1] = order[n-1], order[at]
	return order
}

// rows gives do each list of n numbers whose i-th one is from low to high(i).
func rows(n, low int, high func(i int) int, do func(row []int)) {
	row := make([]int, n)
	var fill func(i int)
	fill = func(i int) {
		if i == n {
			do(row)
			return
		}
		for x := low; x <= high(i); x++ {
			row[i] = x
			fill(i + 1)
		}
	}
	fill(0)
}

// rowsOfDraws gives do each row of n draws, as they count.
func rowsOfDraws(n int, do func(row []int)) {
	rows(n, 0, func(i int) int { return i }, do)
}

// mixed answers numbers of all sizes and signs that are unlike each other for the most part, the same ones in each run.
func mixed(n int) []int {
	l := make([]int, n)
	x := uint64(1)
	for i := range l {
		x = x*6364136223846793005 + 1442695040888963407
		l[i] = int(x) >> (x >> 58)
	}
	return l
}

// makes tells an error unless Order of the draws is want.
func makes(t *testing.T, draws, want []int) {
	t.Helper()
	if o := shuffle.Order(draws...); !slices.Equal(o, want) {
		t.Errorf("Order(%v) is %v; want %v", draws, o, want)
	}
}

// drawn tells an error unless Draws of the list is want and ok, and Is ok.
func drawn(t *testing.T, l, want []int, ok bool) {
	t.Helper()
	if d, is := shuffle.Draws(l); is != ok || !slices.Equal(d, want) {
		t.Errorf("Draws(%v) is %v, %v; want %v, %v", l, d, is, want, ok)
	}
	if is := shuffle.Is(l); is != ok {
		t.Errorf("Is(%v) is %v; want %v", l, is, ok)
	}
}

func TestOrderOfTheChapter(t *testing.T) {
	makes(t, []int{0}, []int{0})
	makes(t, []int{0, 0}, []int{1, 0})
	makes(t, []int{0, 0, 1}, []int{1, 2, 0})
}

func TestOrderOfNone(t *testing.T) {
	if o := shuffle.Order(); len(o) != 0 {
		t.Errorf("Order() is %v", o)
	}
	makes(t, nil, nil)
	makes(t, []int{}, nil)
	makes(t, make([]int, 0, 8), nil)
}

func TestOrderByEachLastDraw(t *testing.T) {
	makes(t, []int{0, 1, 2, 3}, []int{0, 1, 2, 3})
	makes(t, []int{0, 1, 2, 2}, []int{0, 1, 3, 2})
	makes(t, []int{0, 1, 2, 1}, []int{0, 3, 2, 1})
	makes(t, []int{0, 1, 2, 0}, []int{3, 1, 2, 0})
	makes(t, []int{0, 1, 0, 0}, []int{3, 1, 0, 2})
}

func TestOrderOfDrawsAboveAndBelow(t *testing.T) {
	for _, c := range []struct{ draw, counts int }{
		{-7, 2}, {-6, 0}, {-5, 1}, {-4, 2}, {-3, 0}, {-2, 1}, {-1, 2}, {0, 0}, {1, 1}, {2, 2}, {3, 0}, {4, 1}, {5, 2}, {6, 0},
		// 2^63 is 2 more than a multiple of 3.
		{math.MaxInt, 1}, {math.MaxInt - 1, 0}, {math.MaxInt - 2, 2}, {math.MinInt, 1}, {math.MinInt + 1, 2}, {math.MinInt + 2, 0},
		{1 << 32, 1}, {-1 << 32, 2}, {math.MaxInt32, 1}, {math.MinInt32, 1},
	} {
		makes(t, []int{0, 1, c.draw}, shuffle.Order(0, 1, c.counts))
		makes(t, []int{c.draw, 1, c.counts}, shuffle.Order(0, 1, c.counts))
	}
	makes(t, []int{math.MinInt}, []int{0})
	makes(t, []int{math.MaxInt}, []int{0})
	makes(t, []int{-1, -1}, []int{0, 1})
	makes(t, []int{-1, -2}, []int{1, 0})
	makes(t, []int{-1, -1, -1}, []int{0, 1, 2})
}

func TestOrderIsAsWritten(t *testing.T) {
	for n := range 5 {
		rows(n, -n-1, func(i int) int { return n + 1 }, func(draws []int) {
			makes(t, draws, asWritten(draws))
		})
	}
	l := mixed(300)
	for n := range l {
		makes(t, l[:n], asWritten(l[:n]))
	}
}

func TestDrawsOfTheChapter(t *testing.T) {
	drawn(t, []int{1, 2, 0}, []int{0, 0, 1}, true)
	drawn(t, []int{1, 0}, []int{0, 0}, true)
	drawn(t, []int{0}, []int{0}, true)
}

func TestDrawsOfNone(t *testing.T) {
	drawn(t, nil, nil, true)
	drawn(t, []int{}, nil, true)
	drawn(t, make([]int, 0, 8), nil, true)
}

func TestDrawsMakeTheirOrder(t *testing.T) {
	for n := range 8 {
		rowsOfDraws(n, func(draws []int) {
			drawn(t, shuffle.Order(draws...), draws, true)
		})
	}
}

func TestDrawsAreAsTheyCount(t *testing.T) {
	draws := mixed(2000)
	counts := make([]int, len(draws))
	for i, d := range draws {
		counts[i] = (d%(i+1) + i + 1) % (i + 1)
	}
	drawn(t, shuffle.Order(draws...), counts, true)
	makes(t, counts, shuffle.Order(draws...))
}

func TestListsThatAreNoOrder(t *testing.T) {
	for _, l := range [][]int{
		{1}, {-1}, {math.MaxInt}, {math.MinInt}, {1 << 32}, {-1 << 32},
		{0, 0}, {1, 1}, {0, 2}, {2, 0}, {1, 2}, {-1, 0}, {0, -1}, {0, 1 << 32}, {1<<32 + 1, 0}, {1 << 62, 0},
		{0, 1, 3}, {0, 1, 1}, {1, 2, 3}, {0, 0, 0}, {2, 2, 0}, {0, 1, math.MinInt}, {math.MaxInt, 1, 2},
		{3, 2, 1, 0, 0}, {4, 3, 2, 1, 5}, {4, 3, 2, 1, -1},
	} {
		drawn(t, l, nil, false)
	}
}

func TestJustSoManyListsAreOrders(t *testing.T) {
	for n := range 6 {
		orders := 0
		rows(n, -1, func(i int) int { return n }, func(l []int) {
			d, ok := shuffle.Draws(l)
			if ok != shuffle.Is(l) || ok != holdsEach(l) {
				t.Errorf("of %v Draws tells %v, and Is %v", l, ok, shuffle.Is(l))
			}
			if !ok && len(d) != 0 {
				t.Errorf("of %v, no order, Draws are %v", l, d)
			}
			if ok {
				orders++
				makes(t, d, l)
			}
		})
		if orders != shuffle.Count(n) {
			t.Errorf("%d lists of %d are orders; Count is %d", orders, n, shuffle.Count(n))
		}
	}
}

// holdsEach: are all the numbers below its length in the list?
func holdsEach(l []int) bool {
	for x := range l {
		if !slices.Contains(l, x) {
			return false
		}
	}
	return true
}

func TestLongLists(t *testing.T) {
	n := 100000
	draws := mixed(n)
	o := shuffle.Order(draws...)
	d, ok := shuffle.Draws(o)
	if !ok || !shuffle.Is(o) || !slices.Equal(shuffle.Order(d...), o) {
		t.Error("an order of many")
	}
	o[n/2] = o[n/2+1]
	if d, ok := shuffle.Draws(o); ok || len(d) != 0 || shuffle.Is(o) {
		t.Error("many, one of them twice")
	}
}

func TestFirst(t *testing.T) {
	const big = math.MaxInt
	for _, c := range []struct {
		order []int
		may   []bool
		want  int
		ok    bool
	}{
		{[]int{2, 0, 1}, []bool{true, true, true}, 2, true},
		{[]int{2, 0, 1}, []bool{true, true, false}, 0, true},
		{[]int{2, 0, 1}, []bool{false, true, false}, 1, true},
		{[]int{2, 0, 1}, []bool{false, true, true}, 2, true},
		{[]int{2, 0, 1}, []bool{false, false, false}, 0, false},
		// 0 is an answer like others, where it is told with true.
		{[]int{0}, []bool{true}, 0, true},
		{[]int{0}, []bool{false}, 0, false},
		{nil, nil, 0, false},
		{nil, []bool{true}, 0, false},
		{[]int{}, []bool{true, true}, 0, false},
		{[]int{0, 1}, nil, 0, false},
		{[]int{0, 1}, []bool{}, 0, false},
		// Lists of other kinds than orders.
		{[]int{-1, 5, 1}, []bool{true, true}, 1, true},
		{[]int{2, 3, 4}, []bool{true, true}, 0, false},
		{[]int{2, 1}, []bool{true, true}, 1, true},
		{[]int{-1, -2}, []bool{true, true}, 0, false},
		{[]int{math.MinInt, big, 1 << 32, 1<<32 + 1, -1 << 32, 1}, []bool{true, true}, 1, true},
		{[]int{math.MinInt, big}, []bool{true, true}, 0, false},
		{[]int{1, 1, 1, 0, 0}, []bool{true, false}, 0, true},
		{[]int{3, 3}, []bool{false, false, false, true}, 3, true},
		{[]int{1}, []bool{true, true, true}, 1, true},
		{[]int{1}, []bool{true, false, true}, 0, false},
		// No place of may is what stands in its spare room.
		{[]int{1, 0}, []bool{true, true}[:1], 0, true},
		{[]int{1}, []bool{true, true}[:1], 0, false},
		{[]int{0, 1}[:1], []bool{false, true}, 0, false},
	} {
		if x, ok := shuffle.First(c.order, c.may); x != c.want || ok != c.ok {
			t.Errorf("First(%v, %v) is %d, %v; want %d, %v", c.order, c.may, x, ok, c.want, c.ok)
		}
	}
}

func TestCount(t *testing.T) {
	want := 1
	for n := 0; n <= 20; n++ {
		if n > 0 {
			want *= n
		}
		if c := shuffle.Count(n); c != want {
			t.Errorf("Count(%d) is %d; want %d", n, c, want)
		}
	}
	if c := shuffle.Count(20); c != 2432902008176640000 {
		t.Errorf("Count(20) is %d", c)
	}
	for _, n := range []int{-1, -2, -20, math.MinInt32, math.MinInt, 21, 22, 64, 65, 1 << 32, math.MaxInt32, math.MaxInt} {
		if c := shuffle.Count(n); c != 0 {
			t.Errorf("Count(%d) is %d; want 0", n, c)
		}
	}
}

func TestUnlikeDrawsMakeUnlikeOrders(t *testing.T) {
	for n := range 8 {
		made := map[[8]int]bool{}
		count := 0
		rowsOfDraws(n, func(draws []int) {
			var o [8]int
			copy(o[:], shuffle.Order(draws...))
			made[o] = true
			count++
		})
		if len(made) != count || count != shuffle.Count(n) {
			t.Errorf("%d rows of %d draws make %d orders; Count is %d", count, n, len(made), shuffle.Count(n))
		}
	}
}

func TestEachOneThatMayIsFirstAsOften(t *testing.T) {
	for n := range 7 {
		for set := range 1 << n {
			may := make([]bool, n)
			k := 0
			for x := range may {
				may[x] = set>>x&1 == 1
				if may[x] {
					k++
				}
			}
			isFirstAsOften(t, n, k, may)
		}
	}
}

// isFirstAsOften tells an error unless each one of k that may be, out of n, is the first one of one in k orders.
func isFirstAsOften(t *testing.T, n, k int, may []bool) {
	t.Helper()
	often := make([]int, n)
	rowsOfDraws(n, func(draws []int) {
		x, ok := shuffle.First(shuffle.Order(draws...), may)
		if ok != (k > 0) || !ok && x != 0 {
			t.Fatalf("of %v the first one is %d, %v", may, x, ok)
		}
		if ok {
			often[x]++
		}
	})
	for x, c := range often {
		want := 0
		if may[x] {
			want = shuffle.Count(n) / k
		}
		if c != want {
			t.Errorf("of %v %d is the first one of %d orders; want %d", may, x, c, want)
		}
	}
}

func TestListsAreNotChanged(t *testing.T) {
	row := []int{9, 8, 2, 0, 3, 1, 7, 6}
	was := slices.Clone(row)
	may := []bool{false, false, false, true, false}
	mayWas := slices.Clone(may)
	for _, l := range [][]int{row[2:6], row[2:5], row[1:], row[2:6:6]} {
		shuffle.Order(l...)
		shuffle.Draws(l)
		shuffle.Is(l)
		shuffle.First(l, may[:4])
	}
	if !slices.Equal(row, was) || !slices.Equal(may, mayWas) {
		t.Errorf("the lists, with what stands around them, are %v, %v", row, may)
	}
}

func TestAnswersAreNewMemory(t *testing.T) {
	row := []int{0, 1, 2, 3, 4, 5}
	was := slices.Clone(row)
	l := row[:4]
	for range 2 {
		o := shuffle.Order(l...)
		d, ok := shuffle.Draws(l)
		if !ok || !slices.Equal(o, l) || !slices.Equal(d, l) {
			t.Errorf("Order is %v, Draws are %v, %v", o, d, ok)
		}
		for _, a := range [][]int{o, d} {
			a = a[:cap(a)]
			for i := range a {
				a[i] = -9
			}
		}
		if !slices.Equal(row, was) {
			t.Fatalf("the list is %v", row)
		}
	}
}

func TestListsAreNotKept(t *testing.T) {
	l := []int{2, 0, 1}
	o := shuffle.Order(l...)
	oWas := slices.Clone(o)
	d, _ := shuffle.Draws(l)
	dWas := slices.Clone(d)
	clear(l)
	if !slices.Equal(o, oWas) || !slices.Equal(d, dWas) {
		t.Errorf("Order is now %v, Draws are now %v", o, d)
	}
	if shuffle.Is(l) {
		t.Errorf("Is(%v) is true", l)
	}
}
