package queue_test

import (
	"math"
	"slices"
	"testing"

	"handoff/api"
	"handoff/queue"
)

const maxQueues = 64

// told is queues as the chapter's words say: how many things, and rows that are written down, of which none is ever changed.
type told struct {
	things int
	rows   [][]int
}

// with answers the same, but one queue.
func (w told) with(k int, row []int) told {
	w.rows = slices.Clone(w.rows)
	w.rows[k] = row
	return w
}

func (w told) in(x int) (int, bool) {
	for k, row := range w.rows {
		if slices.Contains(row, x) {
			return k, true
		}
	}
	return 0, false
}

func (w told) first(k int) (int, bool) {
	if k < 0 || k >= len(w.rows) || len(w.rows[k]) == 0 {
		return 0, false
	}
	return w.rows[k][0], true
}

func (w told) push(k, x int) (told, bool) {
	_, is := w.in(x)
	if k < 0 || k >= len(w.rows) || x < 0 || x >= w.things || is {
		return w, false
	}
	return w.with(k, slices.Concat(w.rows[k], []int{x})), true
}

func (w told) pop(k int) (told, int, bool) {
	x, ok := w.first(k)
	if !ok {
		return w, 0, false
	}
	return w.with(k, w.rows[k][1:]), x, true
}

func (w told) drop(x int) (told, bool) {
	k, ok := w.in(x)
	if !ok {
		return w, false
	}
	at := slices.Index(w.rows[k], x)
	return w.with(k, slices.Concat(w.rows[k][:at], w.rows[k][at+1:])), true
}

// empty answers new queues, which there must be, and what is told of them.
func empty(t *testing.T, things, queues int) (*queue.Queues, told) {
	t.Helper()
	q, e := queue.New(things, queues)
	if e != api.OK || q == nil {
		t.Fatalf("New(%d, %d) is %v, %d", things, queues, q, e)
	}
	return q, told{things, make([][]int, queues)}
}

// of answers queues of things in those rows, and what is told of them.
func of(t *testing.T, things int, rows ...[]int) (*queue.Queues, told) {
	t.Helper()
	q, w := empty(t, things, len(rows))
	for k, row := range rows {
		for _, x := range row {
			w = pushes(t, q, w, k, x)
		}
	}
	holds(t, q, told{things, rows})
	return q, w
}

// holds tells an error unless all that queues tell is as it is told.
func holds(t *testing.T, q *queue.Queues, w told) {
	t.Helper()
	for k := -1; k <= len(w.rows); k++ {
		var row []int
		if k >= 0 && k < len(w.rows) {
			row = w.rows[k]
		}
		if l := q.List(k); !slices.Equal(l, row) {
			t.Errorf("List(%d) is %v; want %v", k, l, row)
		}
		if n := q.Len(k); n != len(row) {
			t.Errorf("Len(%d) is %d; want %d", k, n, len(row))
		}
		want, is := w.first(k)
		if x, ok := q.First(k); x != want || ok != is {
			t.Errorf("First(%d) is %d, %v; want %d, %v", k, x, ok, want, is)
		}
	}
	for x := -1; x <= w.things; x++ {
		want, is := w.in(x)
		if k, ok := q.In(x); k != want || ok != is {
			t.Errorf("In(%d) is %d, %v; want %d, %v", x, k, ok, want, is)
		}
	}
}

// pushes tells an error unless Push answers as it is told, and answers what is told then.
func pushes(t *testing.T, q *queue.Queues, w told, k, x int) told {
	t.Helper()
	then, want := w.push(k, x)
	if ok := q.Push(k, x); ok != want {
		t.Errorf("Push(%d, %d) of %v is %v; want %v", k, x, w, ok, want)
	}
	return then
}

// pops tells an error unless Pop answers as it is told, and answers what is told then.
func pops(t *testing.T, q *queue.Queues, w told, k int) told {
	t.Helper()
	then, want, is := w.pop(k)
	if x, ok := q.Pop(k); x != want || ok != is {
		t.Errorf("Pop(%d) of %v is %d, %v; want %d, %v", k, w, x, ok, want, is)
	}
	return then
}

// drops tells an error unless Drop answers as it is told, and answers what is told then.
func drops(t *testing.T, q *queue.Queues, w told, x int) told {
	t.Helper()
	then, want := w.drop(x)
	if ok := q.Drop(x); ok != want {
		t.Errorf("Drop(%d) of %v is %v; want %v", x, w, ok, want)
	}
	return then
}

// numbers answers the n numbers from low on.
func numbers(low, n int) []int {
	l := make([]int, n)
	for i := range l {
		l[i] = low + i
	}
	return l
}

// far are numbers that nothing has; cut to 8, 16 or 32 bits some of them would be right.
func far() []int {
	return []int{
		-1, -2, -64, 65, 1 << 8, 1<<8 + 1, 1<<16 + 1, 1 << 32, 1<<32 + 1, -1 << 32, 1 - 1<<32, math.MaxInt32, math.MinInt32, math.MaxInt,
		math.MinInt, 1 << 62,
	}
}

func TestNew(t *testing.T) {
	for things := 0; things <= api.MaxSudogs; things++ {
		for queues := 0; queues <= maxQueues; queues++ {
			q, w := empty(t, things, queues)
			holds(t, q, w)
		}
	}
}

func TestNewOfWrongNumbers(t *testing.T) {
	refused := func(things, queues int) {
		if q, e := queue.New(things, queues); e != api.ErrRange || q != nil {
			t.Errorf("New(%d, %d) is %v, %d", things, queues, q, e)
		}
	}
	for _, n := range far() {
		for _, good := range []int{0, 1, 2, 64} {
			refused(n, good)
			refused(good, n)
		}
		refused(n, n)
		refused(n, -1)
		refused(65, n)
	}
}

func TestTheChapter(t *testing.T) {
	q, w := empty(t, 8, 2)
	for _, x := range []int{4, 2, 7} {
		w = pushes(t, q, w, 1, x)
	}
	if !q.Drop(2) {
		t.Error("Drop(2) is false")
	}
	if l := q.List(1); !slices.Equal(l, []int{4, 7}) {
		t.Errorf("List(1) is %v", l)
	}
	w.rows = [][]int{nil, {4, 7}}
	holds(t, q, w)
}

func TestPush(t *testing.T) {
	for things := 0; things <= api.MaxSudogs; things++ {
		q, w := empty(t, things, 3)
		for i := range things {
			x := things - 1 - i
			if !q.Push(i%3, x) {
				t.Errorf("of %d things Push(%d, %d) is false", things, i%3, x)
			}
			w = w.with(i%3, slices.Concat(w.rows[i%3], []int{x}))
			holds(t, q, w)
		}
	}
}

func TestPushIntoEachQueue(t *testing.T) {
	for queues := 1; queues <= maxQueues; queues++ {
		for k := range queues {
			q, w := empty(t, 2, queues)
			if !q.Push(k, 1) || !q.Push(k, 0) {
				t.Errorf("of %d queues Push into %d is false", queues, k)
			}
			w.rows[k] = []int{1, 0}
			holds(t, q, w)
		}
	}
}

func TestPushOfThoseThatAreInOne(t *testing.T) {
	q, w := of(t, 6, []int{3, 1, 5}, nil, []int{0})
	for _, x := range []int{3, 1, 5, 0} {
		for k := range 3 {
			if q.Push(k, x) {
				t.Errorf("Push(%d, %d) is true", k, x)
			}
			holds(t, q, w)
		}
	}
	for _, x := range []int{2, 4} {
		w = pushes(t, q, w, 1, x)
		holds(t, q, w)
	}
}

func TestNoSuchQueue(t *testing.T) {
	for _, queues := range []int{0, 1, 2, 63, maxQueues} {
		rows := make([][]int, queues)
		if queues > 0 {
			rows[0], rows[queues-1] = []int{1}, []int{2, 0}
		}
		q, w := of(t, 5, rows...)
		for _, k := range append(far(), queues, queues+1) {
			if q.Push(k, 3) || q.Push(k, 1) || q.Push(k, -1) {
				t.Errorf("of %d queues a Push into %d is true", queues, k)
			}
			if x, ok := q.Pop(k); x != 0 || ok {
				t.Errorf("of %d queues Pop(%d) is %d, %v", queues, k, x, ok)
			}
			if x, ok := q.First(k); x != 0 || ok {
				t.Errorf("of %d queues First(%d) is %d, %v", queues, k, x, ok)
			}
			if l, n := q.List(k), q.Len(k); len(l) != 0 || n != 0 {
				t.Errorf("of %d queues List(%d) and Len are %v, %d", queues, k, l, n)
			}
		}
		holds(t, q, w)
	}
}

func TestNoSuchThing(t *testing.T) {
	for _, things := range []int{0, 1, 2, 3, 63, api.MaxSudogs} {
		row := numbers(0, min(things, 2))
		q, w := of(t, things, nil, row, nil)
		for _, x := range append(far(), things, things+1) {
			for k := -1; k <= 3; k++ {
				if q.Push(k, x) {
					t.Errorf("of %d things Push(%d, %d) is true", things, k, x)
				}
			}
			if q.Drop(x) {
				t.Errorf("of %d things Drop(%d) is true", things, x)
			}
			if k, ok := q.In(x); k != 0 || ok {
				t.Errorf("of %d things In(%d) is %d, %v", things, x, k, ok)
			}
		}
		holds(t, q, w)
	}
}

func TestPop(t *testing.T) {
	for n := 0; n <= api.MaxSudogs; n++ {
		row := numbers(0, n)
		slices.Reverse(row)
		q, _ := of(t, n, nil, row)
		for i, want := range row {
			if x, ok := q.Pop(1); x != want || !ok {
				t.Errorf("Pop %d of %d things is %d, %v; want %d", i, n, x, ok, want)
			}
			if k, ok := q.In(want); k != 0 || ok {
				t.Errorf("In(%d) of one that came out is %d, %v", want, k, ok)
			}
			holds(t, q, told{n, [][]int{nil, row[i+1:]}})
		}
		for range 2 {
			if x, ok := q.Pop(1); x != 0 || ok {
				t.Errorf("Pop of an empty queue is %d, %v", x, ok)
			}
			holds(t, q, told{n, make([][]int, 2)})
		}
	}
}

func TestPopLeavesOtherQueues(t *testing.T) {
	q, w := of(t, 6, []int{3, 1}, []int{5, 0}, []int{2, 4})
	for _, k := range []int{1, 0, 1, 1, 2, 0, 0, 2, 2} {
		w = pops(t, q, w, k)
		holds(t, q, w)
	}
	// Those that came out may go in again, wherever they were.
	for i, x := range []int{5, 3, 0, 2, 1, 4} {
		w = pushes(t, q, w, i%2, x)
		holds(t, q, w)
	}
	if !slices.Equal(q.List(0), []int{5, 0, 1}) || !slices.Equal(q.List(1), []int{3, 2, 4}) {
		t.Errorf("List is %v, %v", q.List(0), q.List(1))
	}
}

func TestFirstStays(t *testing.T) {
	q, w := of(t, 4, []int{2, 0, 3}, nil)
	for range 3 {
		if x, ok := q.First(0); x != 2 || !ok {
			t.Errorf("First(0) is %d, %v", x, ok)
		}
		if x, ok := q.First(1); x != 0 || ok {
			t.Errorf("First(1) is %d, %v", x, ok)
		}
		holds(t, q, w)
	}
	// 0 as a thing, and 0 where there is none, are told apart by the bool alone.
	pops(t, q, w, 0)
	if x, ok := q.First(0); x != 0 || !ok {
		t.Errorf("First(0) is %d, %v", x, ok)
	}
}

func TestDropOfEachPlace(t *testing.T) {
	for n := 1; n <= 9; n++ {
		row := numbers(3, n)
		slices.Reverse(row)
		for at, x := range row {
			q, w := of(t, 14, []int{0, 1}, row, []int{2, 13})
			if !q.Drop(x) {
				t.Errorf("Drop of place %d of %d is false", at, n)
			}
			w.rows[1] = slices.Concat(row[:at], row[at+1:])
			holds(t, q, w)
			if q.Drop(x) {
				t.Errorf("a second Drop of place %d of %d is true", at, n)
			}
			holds(t, q, w)
			// What comes behind, and what goes out, shows whether both ends are right.
			w = pushes(t, q, w, 1, 12)
			holds(t, q, w)
			w = pushes(t, q, w, 1, x)
			for range n + 2 {
				w = pops(t, q, w, 1)
				holds(t, q, w)
			}
		}
	}
}

func TestDropOfAllInAnyOrder(t *testing.T) {
	const n = 6
	for _, row := range [][]int{{0, 1, 2, 3, 4, 5}, {5, 3, 1, 4, 0, 2}} {
		orders(n, func(order []int) {
			q, w := of(t, n, nil, row)
			for _, x := range order {
				w = drops(t, q, w, x)
				holds(t, q, w)
			}
			for _, x := range order {
				w = pushes(t, q, w, 0, x)
			}
			holds(t, q, w)
		})
	}
}

// orders calls f with each order of the numbers from 0 to below n.
func orders(n int, f func([]int)) {
	order := numbers(0, n)
	var from func(int)
	from = func(at int) {
		if at == n {
			f(order)
		}
		for i := at; i < n; i++ {
			order[at], order[i] = order[i], order[at]
			from(at + 1)
			order[at], order[i] = order[i], order[at]
		}
	}
	from(0)
}

func TestDropOfThoseThatAreInNone(t *testing.T) {
	q, w := of(t, 6, []int{3, 1}, []int{5})
	for _, x := range []int{0, 2, 4} {
		if q.Drop(x) {
			t.Errorf("Drop(%d) is true", x)
		}
		if k, ok := q.In(x); k != 0 || ok {
			t.Errorf("In(%d) is %d, %v", x, k, ok)
		}
	}
	holds(t, q, w)
	w = pops(t, q, w, 0)
	w = drops(t, q, w, 3)
	w = drops(t, q, w, 5)
	w = drops(t, q, w, 5)
	holds(t, q, w)
}

func TestInTellsEachQueue(t *testing.T) {
	q, w := empty(t, api.MaxSudogs, maxQueues)
	for x := range api.MaxSudogs {
		w = pushes(t, q, w, x*5%maxQueues, x)
	}
	for x := range api.MaxSudogs {
		if k, ok := q.In(x); k != x*5%maxQueues || !ok {
			t.Errorf("In(%d) is %d, %v", x, k, ok)
		}
	}
	holds(t, q, w)
	for x := range api.MaxSudogs {
		w = drops(t, q, w, x)
		w = pushes(t, q, w, (x+1)%maxQueues, x)
		holds(t, q, w)
	}
}

// call makes the same call of both, by its number from 0 on, and answers what is told then.
func call(t *testing.T, q *queue.Queues, w told, which int) told {
	t.Helper()
	queues := len(w.rows)
	if which < queues*w.things {
		return pushes(t, q, w, which%queues, which/queues)
	}
	which -= queues * w.things
	if which < queues {
		return pops(t, q, w, which)
	}
	return drops(t, q, w, which-queues)
}

func TestAllShortRowsOfCalls(t *testing.T) {
	for _, c := range []struct{ things, queues, length int }{{1, 1, 6}, {2, 1, 6}, {2, 2, 5}, {3, 1, 5}, {3, 2, 4}, {4, 1, 4}} {
		calls := c.things*c.queues + c.queues + c.things
		rows := 1
		for range c.length {
			rows *= calls
		}
		for row := range rows {
			q, w := empty(t, c.things, c.queues)
			for range c.length {
				w = call(t, q, w, row%calls)
				holds(t, q, w)
				row /= calls
			}
		}
	}
}

// key writes down what is told, each thing as a letter.
func (w told) key() string {
	var b []byte
	for _, row := range w.rows {
		b = append(b, '|')
		for _, x := range row {
			b = append(b, byte('a'+x))
		}
	}
	return string(b)
}

func TestAllThatCanBeCalled(t *testing.T) {
	for _, c := range []struct{ things, queues int }{{4, 1}, {4, 2}, {3, 3}, {5, 1}} {
		calls := c.things*c.queues + c.queues + c.things
		first := told{c.things, make([][]int, c.queues)}
		seen := map[string]bool{first.key(): true}
		for left := []told{first}; len(left) > 0; left = left[1:] {
			for which := range calls {
				q, w := of(t, c.things, left[0].rows...)
				w = call(t, q, w, which)
				holds(t, q, w)
				if !seen[w.key()] {
					seen[w.key()] = true
					left = append(left, w)
				}
			}
		}
		// How many rows there are of some of the things, in so many queues.
		want := map[[2]int]int{{4, 1}: 65, {4, 2}: 261, {3, 3}: 106, {5, 1}: 326}[[2]int{c.things, c.queues}]
		if len(seen) != want {
			t.Errorf("of %d things in %d queues there are %d states; want %d", c.things, c.queues, len(seen), want)
		}
	}
}

func TestLongRowsOfCalls(t *testing.T) {
	draw := uint64(1)
	for _, c := range []struct{ things, queues int }{{1, 1}, {7, 3}, {64, 1}, {64, 2}, {64, 64}, {5, 64}, {0, 3}, {3, 0}} {
		q, w := empty(t, c.things, c.queues)
		for i := range 3000 {
			draw = draw*6364136223846793005 + 1442695040888963407
			k, x := int(draw>>33)%(c.queues+1), int(draw>>43)%(c.things+1)
			// Long stretches of more that come than go, and of fewer, so that the queues are now long, now short.
			come := draw>>60 < 10
			if i/300%2 == 1 {
				come = draw>>60 < 5
			}
			switch {
			case come:
				w = pushes(t, q, w, k, x)
			case draw>>55&1 == 0:
				w = pops(t, q, w, k)
			default:
				w = drops(t, q, w, x)
			}
			holds(t, q, w)
		}
	}
}

func TestListIsNewMemory(t *testing.T) {
	q, w := of(t, 8, []int{3, 1, 5}, []int{2})
	for _, change := range []func() told{
		func() told { return w },
		func() told { return pushes(t, q, w, 0, 7) },
		func() told { return drops(t, q, w, 1) },
		func() told { return pops(t, q, w, 0) },
		func() told { return pushes(t, q, w, 1, 1) },
	} {
		w = change()
		for k := range 2 {
			a := q.List(k)
			was := slices.Clone(a)
			b := q.List(k)
			a = a[:cap(a)]
			for i := range a {
				a[i] = -9
			}
			if !slices.Equal(b, was) {
				t.Errorf("another answer of List(%d) is %v; want %v", k, b, was)
			}
			_ = append(b, -8)
			holds(t, q, w)
		}
	}
}

func TestListStaysAsItWasAnswered(t *testing.T) {
	q, _ := of(t, 5, []int{4, 0}, nil)
	a := q.List(0)
	q.Push(0, 2)
	b := q.List(0)
	q.Drop(0)
	q.Pop(0)
	q.Push(0, 3)
	q.Push(0, 4)
	if !slices.Equal(a, []int{4, 0}) || !slices.Equal(b, []int{4, 0, 2}) {
		t.Errorf("what List answered is now %v, %v", a, b)
	}
}

func TestQueuesAreApart(t *testing.T) {
	a, w := of(t, 4, []int{3, 1}, []int{0})
	b, v := of(t, 4, []int{3, 1}, []int{0})
	w = pushes(t, a, w, 1, 2)
	w = drops(t, a, w, 3)
	holds(t, b, v)
	v = pops(t, b, v, 1)
	v = pushes(t, b, v, 0, 2)
	holds(t, a, w)
	holds(t, b, v)
}
