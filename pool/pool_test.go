package pool_test

import (
	"math"
	"slices"
	"testing"

	"handoff/api"
	"handoff/pool"
)

// told is a pool as the chapter's words say: rows that are written down, of which none is ever changed.
type told struct {
	size, most int
	caches     [][]int
	middle     []int
	fresh      int
}

// empty answers what is told of a new pool.
func empty(size, takers, most int) told {
	return told{size: size, most: most, caches: make([][]int, takers)}
}

// with answers the same, but one cache and the middle.
func (w told) with(g int, cache, middle []int) told {
	w.caches = slices.Clone(w.caches)
	w.caches[g] = slices.Clone(cache)
	w.middle = slices.Clone(middle)
	return w
}

// behind answers a row with one thing more.
func behind(row []int, x int) []int { return slices.Concat(row, []int{x}) }

func (w told) take(g int) (told, int, bool) {
	if g < 0 || g >= len(w.caches) {
		return w, 0, false
	}
	c, m := w.caches[g], w.middle
	if len(c) == 0 {
		want := w.most / 2
		if want == 0 {
			want = 1
		}
		for len(m) != 0 && len(c) < want {
			c, m = behind(c, m[len(m)-1]), m[:len(m)-1]
		}
	}
	if len(c) != 0 {
		return w.with(g, c[:len(c)-1], m), c[len(c)-1], true
	}
	if w.fresh < w.size {
		w.fresh++
		return w, w.fresh - 1, true
	}
	return w, 0, false
}

func (w told) give(g, x int) (told, bool) {
	if g < 0 || g >= len(w.caches) || !w.live(x) {
		return w, false
	}
	c, m := w.caches[g], w.middle
	if len(c) == w.most {
		for len(c) > w.most/2 {
			m, c = behind(m, c[len(c)-1]), c[:len(c)-1]
		}
	}
	return w.with(g, behind(c, x), m), true
}

func (w told) live(x int) bool {
	in := slices.Concat(slices.Concat(w.caches...), w.middle)
	return 0 <= x && x < w.fresh && !slices.Contains(in, x)
}

// of answers a pool of what is told, which there must be.
func of(t *testing.T, w told) *pool.Pool {
	t.Helper()
	p, e := pool.Of(w.size, w.most, w.caches, w.middle, w.fresh)
	if e != api.OK || p == nil {
		t.Fatalf("Of(%d, %d, %v, %v, %d) is %v, %d", w.size, w.most, w.caches, w.middle, w.fresh, p, e)
	}
	return p
}

// fresh answers a new pool, which there must be.
func fresh(t *testing.T, size, takers, most int) *pool.Pool {
	t.Helper()
	p, e := pool.New(size, takers, most)
	if e != api.OK || p == nil {
		t.Fatalf("New(%d, %d, %d) is %v, %d", size, takers, most, p, e)
	}
	return p
}

// refuses tells an error unless there is no pool of what is told.
func refuses(t *testing.T, w told) {
	t.Helper()
	if p, e := pool.Of(w.size, w.most, w.caches, w.middle, w.fresh); e != api.ErrRange || p != nil {
		t.Errorf("Of(%d, %d, %v, %v, %d) is %v, %d", w.size, w.most, w.caches, w.middle, w.fresh, p, e)
	}
}

// holds tells an error unless all that a pool tells is as it is told.
func holds(t *testing.T, p *pool.Pool, w told) {
	t.Helper()
	for g, cache := range w.caches {
		if l := p.Cache(g); !slices.Equal(l, cache) {
			t.Errorf("Cache(%d) is %v; want %v", g, l, cache)
		}
	}
	for _, g := range []int{-1, len(w.caches), math.MinInt, math.MaxInt} {
		if l := p.Cache(g); len(l) != 0 {
			t.Errorf("Cache(%d) is %v", g, l)
		}
	}
	if l := p.Middle(); !slices.Equal(l, w.middle) {
		t.Errorf("Middle is %v; want %v", l, w.middle)
	}
	if p.Fresh() != w.fresh {
		t.Errorf("Fresh is %d; want %d", p.Fresh(), w.fresh)
	}
	count := 0
	for x := -2; x < w.size+2; x++ {
		live := w.live(x)
		if live {
			count++
		}
		if p.Live(x) != live {
			t.Errorf("Live(%d) is %v; want %v", x, !live, live)
		}
	}
	if p.Count() != count {
		t.Errorf("Count is %d; want %d", p.Count(), count)
	}
}

// takes tells an error unless Take answers as it is told, and answers what is told then.
func takes(t *testing.T, p *pool.Pool, w told, g int) told {
	t.Helper()
	then, want, is := w.take(g)
	if x, ok := p.Take(g); x != want || ok != is {
		t.Errorf("Take(%d) of %v is %d, %v; want %d, %v", g, w, x, ok, want, is)
	}
	return then
}

// gives tells an error unless Give answers as it is told, and answers what is told then.
func gives(t *testing.T, p *pool.Pool, w told, g, x int) told {
	t.Helper()
	then, is := w.give(g, x)
	if ok := p.Give(g, x); ok != is {
		t.Errorf("Give(%d, %d) of %v is %v; want %v", g, x, w, ok, is)
	}
	return then
}

// numbers answers the n numbers from low on.
func numbers(low, n int) []int {
	l := make([]int, n)
	for i := range l {
		l[i] = low + i
	}
	return l
}

// far are numbers that nothing has; cut to 8, 16 or 32 bits some of them would be right.
func far() []int {
	return []int{
		-1, -2, -64, 1 << 8, 1<<8 + 1, 1<<16 + 1, 1 << 32, 1<<32 + 1, -1 << 32, 1 - 1<<32, math.MaxInt32, math.MinInt32, math.MaxInt,
		math.MinInt, 1 << 62,
	}
}

func TestNew(t *testing.T) {
	for size := 0; size <= api.MaxSudogs; size++ {
		for takers := 0; takers <= api.MaxGs; takers++ {
			for most := 1; most <= api.MaxCache; most++ {
				holds(t, fresh(t, size, takers, most), empty(size, takers, most))
			}
		}
	}
}

func TestNewOfWrongNumbers(t *testing.T) {
	sizes := append(far(), api.MaxSudogs+1)
	takers := append(far(), api.MaxGs+1)
	mosts := append(far(), 0, api.MaxCache+1)
	refused := func(size, takers, most int) {
		if p, e := pool.New(size, takers, most); e != api.ErrRange || p != nil {
			t.Errorf("New(%d, %d, %d) is %v, %d", size, takers, most, p, e)
		}
	}
	for _, size := range sizes {
		refused(size, 1, 1)
		refused(size, 0, api.MaxCache)
	}
	for _, n := range takers {
		refused(1, n, 1)
		refused(0, n, api.MaxCache)
	}
	for _, most := range mosts {
		refused(1, 1, most)
		refused(api.MaxSudogs, api.MaxGs, most)
	}
	for i := range far() {
		refused(sizes[i], takers[i], mosts[i])
	}
}

func TestAllThingsOnce(t *testing.T) {
	for _, size := range []int{0, 1, 2, 63, api.MaxSudogs} {
		for _, takers := range []int{1, 2, api.MaxGs} {
			p, w := fresh(t, size, takers, 3), empty(size, takers, 3)
			for want := range size {
				if x, ok := p.Take(want % takers); x != want || !ok {
					t.Errorf("a size of %d: Take %d is %d, %v", size, want, x, ok)
				}
				w.fresh++
				holds(t, p, w)
			}
			for g := range takers {
				w = takes(t, p, w, g)
				holds(t, p, w)
			}
			if w.fresh != size {
				t.Errorf("Fresh is %d of a size of %d", w.fresh, size)
			}
		}
	}
}

func TestOf(t *testing.T) {
	for _, w := range []told{
		{5, 2, [][]int{{3}, nil}, []int{1}, 4},
		{5, 2, [][]int{{3, 0}, {}, {4}}, []int{2, 1}, 5},
		{0, 1, nil, nil, 0},
		{3, 1, [][]int{}, []int{}, 3},
		{3, 1, nil, []int{2, 0, 1}, 3},
		{1, 1, [][]int{{0}}, nil, 1},
		{1, 1, [][]int{nil}, nil, 0},
		{api.MaxSudogs, 1, nil, numbers(0, api.MaxSudogs), api.MaxSudogs},
		{api.MaxSudogs, api.MaxCache, [][]int{numbers(0, api.MaxCache)}, nil, api.MaxCache},
		{api.MaxSudogs, api.MaxCache, [][]int{numbers(0, 16), numbers(16, 16), numbers(32, 16), numbers(48, 16)}, nil, api.MaxSudogs},
		{api.MaxSudogs, 1, make([][]int, api.MaxGs), nil, api.MaxSudogs},
	} {
		holds(t, of(t, w), w)
	}
}

func TestOfEachLengthOfACache(t *testing.T) {
	for most := 1; most <= api.MaxCache; most++ {
		for n := range most + 1 {
			w := told{api.MaxSudogs, most, [][]int{nil, numbers(3, n), nil}, nil, 3 + n}
			holds(t, of(t, w), w)
		}
		for _, n := range []int{most + 1, most + 2, 20} {
			for g := range 3 {
				w := told{api.MaxSudogs, most, make([][]int, 3), nil, 40}
				w.caches[g] = numbers(3, n)
				refuses(t, w)
			}
		}
	}
}

func TestOfEachFresh(t *testing.T) {
	for size := 0; size <= api.MaxSudogs; size++ {
		for n := 0; n <= api.MaxSudogs+1; n++ {
			w := told{size, 2, make([][]int, 2), nil, n}
			if n <= size {
				holds(t, of(t, w), w)
			} else {
				refuses(t, w)
			}
		}
	}
}

func TestOfWrongNumbers(t *testing.T) {
	good := told{5, 2, [][]int{{3}, nil}, []int{1}, 4}
	for _, size := range append(far(), api.MaxSudogs+1) {
		w := good
		w.size = size
		refuses(t, w)
		refuses(t, told{size, 2, nil, nil, 0})
	}
	for _, most := range append(far(), 0, api.MaxCache+1) {
		w := good
		w.most = most
		refuses(t, w)
		refuses(t, told{5, most, nil, nil, 0})
	}
	for _, n := range append(far(), 6, api.MaxSudogs, api.MaxSudogs+1) {
		w := good
		w.fresh = n
		refuses(t, w)
		refuses(t, told{5, 2, nil, nil, n})
	}
	for _, takers := range []int{api.MaxGs + 1, 2 * api.MaxGs, 1 << 8, 1<<8 + 1, 1<<16 + 1} {
		w := good
		w.caches = make([][]int, takers)
		refuses(t, w)
	}
	// Each is right by the other limits' measure.
	refuses(t, told{api.MaxSudogs + 1, 1, nil, nil, api.MaxSudogs + 1})
	refuses(t, told{0, 1, nil, nil, 1})
}

func TestOfWrongThings(t *testing.T) {
	for _, x := range append(far(), 4, 5, 6, api.MaxSudogs) {
		refuses(t, told{5, 3, [][]int{{x}, nil}, nil, 4})
		refuses(t, told{5, 3, [][]int{{0}, {1, x}}, nil, 4})
		refuses(t, told{5, 3, [][]int{{0}, {x, 1}}, nil, 4})
		refuses(t, told{5, 3, [][]int{{0}, {1}}, []int{x}, 4})
		refuses(t, told{5, 3, [][]int{{0}, {1}}, []int{2, x, 3}, 4})
		refuses(t, told{5, 3, nil, []int{x}, 4})
	}
	refuses(t, told{5, 3, [][]int{{0}}, nil, 0})
	refuses(t, told{5, 3, nil, []int{0}, 0})
}

func TestOfThingsThatAreThereTwice(t *testing.T) {
	for x := range 6 {
		others := slices.DeleteFunc(numbers(0, 6), func(y int) bool { return y == x })
		a, b := others[:2], others[2:4]
		refuses(t, told{6, 4, [][]int{{x, x}}, nil, 6})
		refuses(t, told{6, 4, [][]int{b, {x, a[0], x}}, nil, 6})
		refuses(t, told{6, 4, [][]int{{x, a[0]}, b, {a[1], x}}, nil, 6})
		refuses(t, told{6, 4, [][]int{a, {x}}, []int{x}, 6})
		refuses(t, told{6, 4, [][]int{{x, a[0]}, b}, []int{a[1], x}, 6})
		refuses(t, told{6, 4, [][]int{a, b}, []int{x, x}, 6})
		refuses(t, told{6, 4, nil, []int{a[0], x, b[0], x, b[1]}, 6})
		w := told{6, 4, [][]int{a, {x}}, b, 6}
		holds(t, of(t, w), w)
	}
	refuses(t, told{api.MaxSudogs, 4, nil, append(numbers(0, api.MaxSudogs), api.MaxSudogs-1), api.MaxSudogs})
}

func TestOfFarTooManyThings(t *testing.T) {
	zeroes := make([]int, 1<<16+2)
	// Cut to 8 or 16 bits these lengths would be right.
	for _, n := range []int{1 << 8, 1<<8 + 1, 1 << 16, 1<<16 + 1, 1<<16 + 2} {
		refuses(t, told{5, 2, [][]int{zeroes[:n]}, nil, 5})
		refuses(t, told{5, 2, nil, zeroes[:n], 5})
		refuses(t, told{5, 2, nil, numbers(0, n), 5})
	}
}

func TestTheChapter(t *testing.T) {
	p, w := fresh(t, 1, 2, 1), empty(1, 2, 1)
	if x, ok := p.Take(0); x != 0 || !ok {
		t.Errorf("Take(0) is %d, %v", x, ok)
	}
	w.fresh = 1
	holds(t, p, w)
	if x, ok := p.Take(1); x != 0 || ok {
		t.Errorf("Take(1) is %d, %v", x, ok)
	}
	holds(t, p, w)
	if !p.Give(1, 0) {
		t.Error("Give(1, 0) is false")
	}
	w.caches = [][]int{nil, {0}}
	holds(t, p, w)
	if x, ok := p.Take(0); x != 0 || ok {
		t.Errorf("Take(0) is %d, %v", x, ok)
	}
	holds(t, p, w)
}

func TestTakeOfEachMostAndMiddle(t *testing.T) {
	for most := 1; most <= api.MaxCache; most++ {
		half := []int{0, 1, 1, 1, 2, 2, 3, 3, 4, 4, 5, 5, 6, 6, 7, 7, 8}[most]
		for n := range 2*api.MaxCache + 1 {
			middle := numbers(10, n)
			w := told{api.MaxSudogs, most, [][]int{{0}, nil}, middle, 50}
			p := of(t, w)
			x, ok := p.Take(1)
			come := min(n, half)
			switch {
			case !ok, n == 0 && x != 50, n > 0 && x != 10+n-come:
				t.Errorf("Take(1) with a most of %d and a middle of %d is %d, %v", most, n, x, ok)
			}
			want := told{api.MaxSudogs, most, [][]int{{0}, nil}, middle[:n-come], 50}
			if n == 0 {
				want.fresh = 51
			}
			for i := n - 1; i > n-come; i-- {
				want.caches[1] = append(want.caches[1], middle[i])
			}
			holds(t, p, want)
		}
	}
}

func TestTakeOfACacheLeavesTheMiddle(t *testing.T) {
	for most := 1; most <= api.MaxCache; most++ {
		for n := 1; n <= most; n++ {
			w := told{40, most, [][]int{nil, numbers(5, n)}, []int{1, 3, 2}, 30}
			p := of(t, w)
			if x, ok := p.Take(1); x != 4+n || !ok {
				t.Errorf("Take(1) of %d things is %d, %v", n, x, ok)
			}
			w.caches = [][]int{nil, numbers(5, n-1)}
			holds(t, p, w)
		}
	}
}

func TestTakeWhereNothingIsLeft(t *testing.T) {
	for _, w := range []told{
		{0, 2, make([][]int, 2), nil, 0},
		{3, 2, make([][]int, 2), nil, 3},
		{3, 2, [][]int{{0, 2}, nil}, nil, 3},
		{api.MaxSudogs, api.MaxCache, [][]int{numbers(0, 16), nil}, nil, api.MaxSudogs},
	} {
		p := of(t, w)
		for range 2 {
			if x, ok := p.Take(1); x != 0 || ok {
				t.Errorf("Take(1) of %v is %d, %v", w, x, ok)
			}
			holds(t, p, w)
		}
	}
}

func TestNoSuchTaker(t *testing.T) {
	for takers := 0; takers <= api.MaxGs; takers++ {
		w := told{20, 2, make([][]int, takers), []int{3, 1, 2}, 10}
		if takers > 0 {
			w.caches[0], w.caches[takers-1] = []int{4}, []int{5, 6}
		}
		p := of(t, w)
		for _, g := range append(far(), takers, takers+1, api.MaxGs) {
			if x, ok := p.Take(g); x != 0 || ok {
				t.Errorf("of %d takers Take(%d) is %d, %v", takers, g, x, ok)
			}
			if p.Give(g, 7) {
				t.Errorf("of %d takers Give(%d, 7) is true", takers, g)
			}
			if l := p.Cache(g); len(l) != 0 {
				t.Errorf("of %d takers Cache(%d) is %v", takers, g, l)
			}
		}
		holds(t, p, w)
	}
}

func TestGiveOfEachMostAndCache(t *testing.T) {
	for most := 1; most <= api.MaxCache; most++ {
		half := []int{0, 0, 1, 1, 2, 2, 3, 3, 4, 4, 5, 5, 6, 6, 7, 7, 8}[most]
		for n := range most + 1 {
			w := told{40, most, [][]int{{0}, numbers(5, n)}, []int{3, 1}, 30}
			p := of(t, w)
			if !p.Give(1, 2) {
				t.Errorf("Give(1, 2) with a most of %d is false", most)
			}
			want := told{40, most, [][]int{{0}, numbers(5, n)}, []int{3, 1}, 30}
			if n == most {
				want.caches[1] = numbers(5, half)
				for x := 4 + most; x > 4+half; x-- {
					want.middle = append(want.middle, x)
				}
			}
			want.caches[1] = append(want.caches[1], 2)
			holds(t, p, want)
		}
	}
}

func TestGiveOfThingsThatAreNotLive(t *testing.T) {
	w := told{12, 2, [][]int{{0, 5}, nil, {7}}, []int{2, 4}, 9}
	p := of(t, w)
	for g := range w.caches {
		for _, x := range append(far(), 0, 5, 7, 2, 4, 9, 10, 11, 12, 13, api.MaxSudogs) {
			if p.Give(g, x) || p.Live(x) {
				t.Errorf("Give(%d, %d) is true, or it is live", g, x)
			}
			holds(t, p, w)
		}
	}
	for i, x := range []int{1, 3, 6, 8} {
		w = gives(t, p, w, i%3, x)
		holds(t, p, w)
		w = gives(t, p, w, (i+1)%3, x)
		holds(t, p, w)
	}
	if p.Count() != 0 {
		t.Errorf("Count is %d", p.Count())
	}
}

// key writes down what is told, each thing as a letter.
func (w told) key() string {
	b := []byte{byte('0' + w.fresh)}
	for _, row := range append(slices.Clone(w.caches), w.middle) {
		b = append(b, '|')
		for _, x := range row {
			b = append(b, byte('a'+x))
		}
	}
	return string(b)
}

// nexts calls each Take and each Give once, each of a pool of its own, and answers what is told then of each.
func nexts(t *testing.T, w told) []told {
	t.Helper()
	var all []told
	for g := range len(w.caches) {
		p := of(t, w)
		then := takes(t, p, w, g)
		holds(t, p, then)
		all = append(all, then)
		for x := range w.size {
			p := of(t, w)
			then := gives(t, p, w, g, x)
			holds(t, p, then)
			all = append(all, then)
		}
	}
	return all
}

func TestAllThatCanBeCalled(t *testing.T) {
	for size := range 5 {
		for takers := 1; takers <= 2; takers++ {
			for most := 1; most <= 4; most++ {
				first := empty(size, takers, most)
				seen := map[string]bool{first.key(): true}
				for left := []told{first}; len(left) > 0; left = left[1:] {
					for _, then := range nexts(t, left[0]) {
						if !seen[then.key()] {
							seen[then.key()] = true
							left = append(left, then)
						}
					}
				}
			}
		}
	}
}

// draws answers numbers from 0 to below n, the same ones in each run.
func draws() func(n int) int {
	x := uint64(1)
	return func(n int) int {
		x = x*6364136223846793005 + 1442695040888963407
		return int((x >> 33) % uint64(n))
	}
}

func TestLongRowsOfCalls(t *testing.T) {
	draw := draws()
	for most := 1; most <= api.MaxCache; most++ {
		for _, size := range []int{1, 7, 33, api.MaxSudogs} {
			takers := 1 + draw(api.MaxGs)
			p, w := fresh(t, size, takers, most), empty(size, takers, most)
			for i := range 600 {
				g := draw(takers)
				// Long stretches of more takes than gives, and of fewer, so that the rows are now long, now short.
				if draw(4) < 1+i/100%2*2 {
					w = takes(t, p, w, g)
				} else {
					w = gives(t, p, w, g, draw(size))
				}
				holds(t, p, w)
			}
			if t.Failed() {
				return
			}
		}
	}
}

// use takes and gives till each row was changed to all sides.
func use(p *pool.Pool) {
	for range 2 {
		for x := -1; x <= api.MaxSudogs; x++ {
			p.Give(0, x)
			p.Give(1, x)
		}
		for range 2 * api.MaxSudogs {
			p.Take(1)
			p.Take(0)
		}
	}
}

func TestListsAreNotChanged(t *testing.T) {
	row := []int{9, 8, 7, 6, 5, 4, 3, 2, 1, 0}
	was := slices.Clone(row)
	caches := [][]int{row[1:3], row[4:5], row[5:5], row[:1]}
	for _, w := range []told{
		{20, 4, caches[:2], row[6:8], 12}, {20, 4, caches[2:3:4], row[:0], 12}, {20, 4, caches[1:3], row[7:8:8], 12},
		{20, 4, caches[:2], row[6:8], 3}, {20, 1, caches[:2], row[6:8], 12}, {20, 4, caches, row, 12}, {-1, 4, caches, row, 12},
	} {
		p, e := pool.Of(w.size, w.most, w.caches, w.middle, w.fresh)
		if e == api.OK {
			use(p)
		}
		if !slices.Equal(row, was) {
			t.Fatalf("the lists, with what stands around them, are %v; want %v", row, was)
		}
		for g, l := range [][]int{was[1:3], was[4:5], was[5:5], was[:1]} {
			if !slices.Equal(caches[g], l) {
				t.Fatalf("the list of caches has %v at %d; want %v", caches[g], g, l)
			}
		}
	}
}

func TestListsAreNotKept(t *testing.T) {
	caches := [][]int{{0, 1}, {2}, nil}
	middle := []int{3, 4, 5}
	p := of(t, told{8, 4, caches, middle, 7})
	clear(caches[0])
	clear(caches[1])
	clear(middle)
	caches[0], caches[2] = []int{6}, []int{6}
	w := told{8, 4, [][]int{{0, 1}, {2}, nil}, []int{3, 4, 5}, 7}
	holds(t, p, w)
	w = takes(t, p, w, 2)
	w = takes(t, p, w, 2)
	w = takes(t, p, w, 0)
	w = gives(t, p, w, 1, 6)
	holds(t, p, w)
}

func TestOneListForAllIsTakenApart(t *testing.T) {
	// All rows stand in one piece of memory, each in the spare room of the one ahead.
	row := numbers(0, 6)
	w := told{12, 4, [][]int{row[0:2], row[2:3]}, row[3:6], 12}
	p, other := of(t, w), of(t, w)
	v := w.with(0, w.caches[0], w.middle)
	v.caches[1] = slices.Clone(w.caches[1])
	then := v
	for _, x := range []int{6, 7, 8, 9} {
		then = gives(t, p, then, 0, x)
		then = gives(t, p, then, 1, x+2)
		holds(t, p, then)
	}
	holds(t, other, v)
}

func TestAnswersAreNewMemory(t *testing.T) {
	w := told{20, 4, [][]int{{0, 1}, {2}, nil}, []int{3, 4, 5}, 15}
	p := of(t, w)
	scribble := func(l []int) {
		l = l[:cap(l)]
		for i := range l {
			l[i] = -9
		}
	}
	for i := range 12 {
		scribble(p.Middle())
		for g := range 3 {
			scribble(p.Cache(g))
		}
		scribble(p.Cache(-1))
		holds(t, p, w)
		if i%3 == 2 {
			w = takes(t, p, w, i%2*2)
		} else {
			w = gives(t, p, w, 1, 6+i)
		}
		holds(t, p, w)
	}
}

func TestAnswersStayAsTheyWere(t *testing.T) {
	w := told{20, 4, [][]int{{0, 1}, {2}}, []int{3, 4, 5}, 15}
	p := of(t, w)
	first, second, middle := p.Cache(0), p.Cache(1), p.Middle()
	use(p)
	if !slices.Equal(first, []int{0, 1}) || !slices.Equal(second, []int{2}) || !slices.Equal(middle, []int{3, 4, 5}) {
		t.Errorf("what Cache and Middle answered is now %v, %v, %v", first, second, middle)
	}
}

func TestAPoolOfWhatAPoolTells(t *testing.T) {
	p, w := fresh(t, 9, 3, 3), empty(9, 3, 3)
	draw := draws()
	for range 300 {
		caches := [][]int{p.Cache(0), p.Cache(1), p.Cache(2)}
		again := of(t, told{9, 3, caches, p.Middle(), p.Fresh()})
		holds(t, again, w)
		use(again)
		g, x := draw(3), draw(9)
		if draw(2) == 0 {
			w = takes(t, p, w, g)
		} else {
			w = gives(t, p, w, g, x)
		}
		holds(t, p, w)
	}
}
