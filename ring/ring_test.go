package ring_test

import (
	"math"
	"slices"
	"testing"

	"handoff/api"
	"handoff/ring"
)

// wrongRooms are rooms that no ring has; cut to 8, 16 or 32 bits some of them would be right.
func wrongRooms() []int {
	return []int{
		-1, -2, -64, api.MaxRoom + 1, api.MaxRoom + 2, 2 * api.MaxRoom, 1 << 8, 1<<16 + 2, 1 << 32, 1<<32 + 2,
		-1 << 32, 2 - 1<<32, math.MaxInt32, math.MinInt32, math.MaxInt, math.MinInt, 1 << 62,
	}
}

// values answers n values of all sizes and signs that are unlike each other for the most part, the same ones in each run.
func values(n int) []int64 {
	l := make([]int64, n)
	x := uint64(1)
	for i := range l {
		x = x*6364136223846793005 + 1442695040888963407
		l[i] = int64(x) >> (x >> 58)
	}
	return l
}

// of answers a ring that there must be.
func of(t *testing.T, room int, l ...int64) *ring.Ring {
	t.Helper()
	r, e := ring.Of(room, l)
	if e != api.OK || r == nil {
		t.Fatalf("Of(%d, %v) is %v, %d", room, l, r, e)
	}
	return r
}

// holds tells an error unless the ring has so many places, and just these values, in this row.
func holds(t *testing.T, r *ring.Ring, room int, want ...int64) {
	t.Helper()
	if l := r.All(); !slices.Equal(l, want) {
		t.Errorf("All is %v; want %v", l, want)
	}
	if r.Room() != room || r.Len() != len(want) || r.Full() != (len(want) == room) {
		t.Errorf("Room %d, Len %d, Full %v; want %d places, %d values", r.Room(), r.Len(), r.Full(), room, len(want))
	}
}

// puts tells an error unless Put answers want.
func puts(t *testing.T, r *ring.Ring, v int64, want bool) {
	t.Helper()
	if ok := r.Put(v); ok != want {
		t.Errorf("Put(%d) is %v; want %v", v, ok, want)
	}
}

// gets tells an error unless Get answers want and ok.
func gets(t *testing.T, r *ring.Ring, want int64, ok bool) {
	t.Helper()
	if v, is := r.Get(); v != want || is != ok {
		t.Errorf("Get is %d, %v; want %d, %v", v, is, want, ok)
	}
}

// passes tells an error unless Pass answers want and ok.
func passes(t *testing.T, r *ring.Ring, v, want int64, ok bool) {
	t.Helper()
	if x, is := r.Pass(v); x != want || is != ok {
		t.Errorf("Pass(%d) is %d, %v; want %d, %v", v, x, is, want, ok)
	}
}

func TestNew(t *testing.T) {
	for room := 0; room <= api.MaxRoom; room++ {
		r, e := ring.New(room)
		if e != api.OK || r == nil {
			t.Fatalf("New(%d) is %v, %d", room, r, e)
		}
		holds(t, r, room)
	}
}

func TestNewOfWrongRooms(t *testing.T) {
	for _, room := range wrongRooms() {
		if r, e := ring.New(room); e != api.ErrRange || r != nil {
			t.Errorf("New(%d) is %v, %d", room, r, e)
		}
	}
}

func TestOfEachRoomAndLength(t *testing.T) {
	l := values(2 * api.MaxRoom)
	for room := 0; room <= api.MaxRoom; room++ {
		for n := range l {
			if n <= room {
				holds(t, of(t, room, l[:n]...), room, l[:n]...)
			} else if r, e := ring.Of(room, l[:n]); e != api.ErrRange || r != nil {
				t.Errorf("Of a room of %d and %d values is %v, %d", room, n, r, e)
			}
		}
	}
}

func TestOfWrongRooms(t *testing.T) {
	for _, room := range wrongRooms() {
		for _, n := range []int{0, 1, 2, api.MaxRoom, api.MaxRoom + 1} {
			if r, e := ring.Of(room, values(n)); e != api.ErrRange || r != nil {
				t.Errorf("Of a room of %d and %d values is %v, %d", room, n, r, e)
			}
		}
	}
}

func TestOfFarTooManyValues(t *testing.T) {
	l := values(1<<16 + 2)
	for _, room := range []int{0, 1, 2, api.MaxRoom} {
		// Cut to 8 or 16 bits these lengths would be right.
		for _, n := range []int{1 << 8, 1<<8 + 1, 1 << 16, 1<<16 + 2} {
			if r, e := ring.Of(room, l[:n]); e != api.ErrRange || r != nil {
				t.Errorf("Of a room of %d and %d values is %v, %d", room, n, r, e)
			}
		}
	}
}

func TestOfNoValues(t *testing.T) {
	for _, l := range [][]int64{nil, {}, make([]int64, 0, 8)} {
		holds(t, of(t, 0, l...), 0)
		r := of(t, 1, l...)
		holds(t, r, 1)
		gets(t, r, 0, false)
		puts(t, r, 5, true)
		holds(t, r, 1, 5)
	}
}

func TestTheChapter(t *testing.T) {
	r, _ := ring.New(2)
	puts(t, r, 5, true)
	puts(t, r, 6, true)
	passes(t, r, 7, 5, true)
	holds(t, r, 2, 6, 7)
}

func TestPut(t *testing.T) {
	l := values(api.MaxRoom)
	for room := 0; room <= api.MaxRoom; room++ {
		r, _ := ring.New(room)
		for i := range room {
			puts(t, r, l[i], true)
			holds(t, r, room, l[:i+1]...)
		}
		for range 2 {
			puts(t, r, 99, false)
			holds(t, r, room, l[:room]...)
		}
	}
}

func TestGet(t *testing.T) {
	l := values(api.MaxRoom)
	for room := 0; room <= api.MaxRoom; room++ {
		for _, n := range []int{0, room / 2, room} {
			r := of(t, room, l[:n]...)
			for i := range n {
				gets(t, r, l[i], true)
				holds(t, r, room, l[i+1:n]...)
			}
			for range 2 {
				gets(t, r, 0, false)
				holds(t, r, room)
			}
		}
	}
}

func TestPass(t *testing.T) {
	l := values(3 * api.MaxRoom)
	for room := 1; room <= api.MaxRoom; room++ {
		r := of(t, room, l[:room]...)
		for i := range 2 * room {
			passes(t, r, l[room+i], l[i], true)
			holds(t, r, room, l[i+1:room+i+1]...)
		}
	}
}

func TestPassOfThoseThatAreNotFull(t *testing.T) {
	l := values(api.MaxRoom)
	for room := 1; room <= api.MaxRoom; room++ {
		for n := range room {
			r := of(t, room, l[:n]...)
			passes(t, r, 99, 0, false)
			holds(t, r, room, l[:n]...)
		}
	}
}

func TestNoRoom(t *testing.T) {
	for range 2 {
		r := of(t, 0)
		for _, v := range []int64{0, 1, -1, math.MaxInt64, math.MinInt64} {
			puts(t, r, v, false)
			passes(t, r, v, 0, false)
			gets(t, r, 0, false)
			holds(t, r, 0)
		}
	}
}

func TestValuesAreKeptWhole(t *testing.T) {
	for _, v := range []int64{
		0, 1, -1, math.MaxInt32, math.MinInt32, 1 << 31, 1 << 32, -1 << 32, 1<<53 + 1, 1 << 62, math.MaxInt64 - 1, math.MaxInt64,
		math.MinInt64 + 1, math.MinInt64,
	} {
		r := of(t, 2, v)
		puts(t, r, v, true)
		holds(t, r, 2, v, v)
		passes(t, r, v, v, true)
		gets(t, r, v, true)
		gets(t, r, v, true)
		gets(t, r, 0, false)
	}
}

// listed is a ring as the chapter's words say: how many places, and a list.
type listed struct {
	room int
	l    []int64
}

func (r *listed) put(v int64) bool {
	if len(r.l) == r.room {
		return false
	}
	r.l = slices.Concat(r.l, []int64{v})
	return true
}

func (r *listed) get() (int64, bool) {
	if len(r.l) == 0 {
		return 0, false
	}
	v := r.l[0]
	r.l = slices.Clone(r.l[1:])
	return v, true
}

func (r *listed) pass(v int64) (int64, bool) {
	if len(r.l) != r.room || len(r.l) == 0 {
		return 0, false
	}
	first := r.l[0]
	r.l = slices.Concat(r.l[1:], []int64{v})
	return first, true
}

// call makes the same call of both, by its number from 0 to 2, and holds their answers against each other.
func call(t *testing.T, r *ring.Ring, want *listed, which int, v int64) {
	t.Helper()
	switch which {
	case 0:
		puts(t, r, v, want.put(v))
	case 1:
		first, ok := want.get()
		gets(t, r, first, ok)
	default:
		first, ok := want.pass(v)
		passes(t, r, v, first, ok)
	}
	holds(t, r, want.room, want.l...)
}

func TestAllShortRowsOfCalls(t *testing.T) {
	const length, calls = 7, 3
	rows := 1
	for range length {
		rows *= calls
	}
	for room := range 4 {
		for n := range room + 1 {
			for row := range rows {
				want := &listed{room, []int64{-1, -2, -3}[:n]}
				r := of(t, room, want.l...)
				for i := range length {
					call(t, r, want, row%calls, int64(10+i))
					row /= calls
				}
			}
		}
	}
}

func TestLongRowsOfCalls(t *testing.T) {
	for _, room := range []int{0, 1, 2, 3, 7, api.MaxRoom - 1, api.MaxRoom} {
		want := &listed{room: room}
		r := of(t, room)
		for i, v := range values(4000) {
			// Long stretches of more puts than gets, and of fewer, so that it is now full, now empty.
			which := int(uint64(v) % 3)
			if which == 1 && i/200%2 == 0 && v%4 != 0 {
				which = 0
			} else if which == 0 && i/200%2 == 1 && v%4 != 0 {
				which = 1
			}
			call(t, r, want, which, v)
		}
	}
}

func TestListIsNotChanged(t *testing.T) {
	row := []int64{9, 8, 7, 6, 5, 4}
	was := slices.Clone(row)
	for _, l := range [][]int64{row[1:4], row[1:1], row[1:4:4], row} {
		r := of(t, 6, l...)
		for range 6 {
			r.Put(90)
		}
		for range 6 {
			r.Pass(91)
		}
		for range 7 {
			r.Get()
		}
		r.Put(92)
		ring.Of(0, l)
		ring.Of(-1, l)
		if !slices.Equal(row, was) {
			t.Fatalf("the list, with what stands around it, is %v; want %v", row, was)
		}
	}
}

func TestListIsNotKept(t *testing.T) {
	l := []int64{5, 6, 7}
	r := of(t, 4, l...)
	clear(l)
	holds(t, r, 4, 5, 6, 7)
	puts(t, r, 8, true)
	_ = append(l[:2], 90)
	holds(t, r, 4, 5, 6, 7, 8)
}

func TestRoomOfListIsNotTaken(t *testing.T) {
	r := of(t, 2, []int64{5, 6, 7, 8}[:2]...)
	holds(t, r, 2, 5, 6)
	passes(t, r, 9, 5, true)
	holds(t, r, 2, 6, 9)
	if r, e := ring.Of(2, make([]int64, 3, 8)); e != api.ErrRange || r != nil {
		t.Errorf("Of a room of 2 and 3 values is %v, %d", r, e)
	}
}

func TestAllIsNewMemory(t *testing.T) {
	r := of(t, 4, 1, 2, 3)
	for _, change := range []func(){
		func() {}, func() { r.Put(4) }, func() { r.Pass(5) }, func() { r.Get() }, func() { r.Get() }, func() { r.Put(6) },
	} {
		change()
		a := r.All()
		was := slices.Clone(a)
		b := r.All()
		a = a[:cap(a)]
		for i := range a {
			a[i] = -9
		}
		holds(t, r, 4, was...)
		if !slices.Equal(b, was) {
			t.Errorf("another answer of All is %v; want %v", b, was)
		}
	}
}

func TestAllStaysAsItWasAnswered(t *testing.T) {
	r := of(t, 3, 1, 2)
	a := r.All()
	r.Put(3)
	b := r.All()
	r.Pass(4)
	r.Get()
	r.Put(5)
	if !slices.Equal(a, []int64{1, 2}) || !slices.Equal(b, []int64{1, 2, 3}) {
		t.Errorf("what All answered is now %v, %v", a, b)
	}
}

func TestRingsOfOneListAreApart(t *testing.T) {
	l := []int64{1, 2, 3, 4}[:2]
	a, b := of(t, 3, l...), of(t, 3, l...)
	c := of(t, 3, a.All()...)
	puts(t, a, 7, true)
	passes(t, a, 8, 1, true)
	puts(t, b, 9, true)
	gets(t, c, 1, true)
	holds(t, a, 3, 2, 7, 8)
	holds(t, b, 3, 1, 2, 9)
	holds(t, c, 3, 2)
}
