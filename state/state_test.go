package state_test

import (
	"fmt"
	"math"
	"slices"
	"testing"

	"handoff/api"
	"handoff/state"
)

// made answers a new world, which there must be.
func made(t *testing.T, p [][]api.Op, c api.Config, l []uint16) *state.World {
	t.Helper()
	w, e := state.New(p, c, l)
	if e != api.OK || w == nil {
		t.Fatalf("New(%v, %v, %v) is %v, %d", p, c, l, w, e)
	}
	return w
}

// first is what is told of a new world.
func first(p [][]api.Op, c api.Config, l []uint16) api.State {
	s := api.State{Config: c, Draws: l, Sudogs: make([]api.Sudog, c.Sudogs), Cache: make([][]int, len(p))}
	for _, ops := range p {
		s.Gs = append(s.Gs, emptyG(api.G{Ops: ops}))
	}
	return s
}

// idle is one goroutine without ops.
func idle() [][]api.Op { return [][]api.Op{nil} }

// far are numbers that are too great or too small; cut to 8, 16 or 32 bits some of them would be right.
func far() []int {
	return []int{
		-1, -2, -64, 1 - 1<<8, 1 - 1<<16, 1 - 1<<32, math.MinInt32, math.MinInt + 1, math.MinInt,
		65, 66, 128, 1<<8 + 1, 1<<16 + 1, 1<<32 + 1, math.MaxInt32, 1 << 62, math.MaxInt,
	}
}

func TestTheChapter(t *testing.T) {
	s := made(t, idle(), api.Config{Cache: 1}, nil).State()
	if s.Step != 0 || len(s.Chans) != 0 {
		t.Errorf("Step is %d, Chans are %v", s.Step, s.Chans)
	}
}

func TestNewOfEachSize(t *testing.T) {
	for sudogs := range 65 {
		for cache := 1; cache <= 16; cache++ {
			c := api.Config{Sudogs: sudogs, Cache: cache}
			p := make([][]api.Op, 1+(sudogs+cache)%8)
			holds(t, made(t, p, c, nil), first(p, c, nil))
		}
	}
}

func TestNewOfManyPlans(t *testing.T) {
	d := draws{1}
	for range 500 {
		p, c := d.plan(), api.Config{Sudogs: d.n(65), Cache: 1 + d.n(16)}
		var l []uint16
		for range d.n(30) {
			l = append(l, uint16(d.n(1<<16)))
		}
		holds(t, made(t, p, c, l), first(p, c, l))
	}
}

// What a new goroutine has is written down here field by field.
func TestNewGoroutine(t *testing.T) {
	w := made(t, [][]api.Op{nil, {{Kind: 6, Ch: 3}}}, api.Config{Cache: 3}, nil)
	want := api.G{Ops: []api.Op{{Kind: 6, Ch: 3}}, Place: api.AtBegin, Status: api.Runs, Param: -1, Mine: -1, Hold: -1, With: -1, Fire: -1, Res: api.Result{Case: -1}}
	if g := w.State().Gs[1]; !same(g, want) {
		t.Errorf("%+v; want %+v", g, want)
	}
}

// refused tells an error unless New is an error, and nil.
func refused(t *testing.T, p [][]api.Op, c api.Config, l []uint16, want api.Errno) {
	t.Helper()
	if w, e := state.New(p, c, l); e != want || w != nil {
		t.Errorf("New(%v, %v, %v) is %v, %d; want nil, %d", p, c, l, w, e, want)
	}
}

func TestNewOfWrongPlans(t *testing.T) {
	plans := [][][]api.Op{
		nil, {}, make([][]api.Op, 9), make([][]api.Op, 300), {{{}}}, {nil, {{Kind: 10}}}, {slices.Repeat([]api.Op{{Kind: 1}}, 17)},
		{{{Kind: 1, N: 5}}}, {{{Kind: 1, N: -1}}}, {{{Kind: 2, Ch: 9}}}, {{{Kind: 2, Ch: -1}}}, {{{Kind: 2, V: 256}}}, {{{Kind: 3, V: 1}}}, {{{Kind: 3, Else: true}}},
		{{{Kind: 9, Cases: make([]api.Case, 7)}}}, {{{Kind: 9, Cases: []api.Case{{Ch: 9}}}}}, {{{Kind: 9, Cases: []api.Case{{V: 1}}}}}, {{{Kind: 9, Ch: 1}}},
	}
	for _, p := range plans {
		refused(t, p, api.Config{Sudogs: 3, Cache: 2}, nil, api.ErrPlan)
		// A wrong Config, too: what is named first counts.
		refused(t, p, api.Config{Sudogs: -1, Cache: 2}, []uint16{1}, api.ErrPlan)
		refused(t, p, api.Config{Sudogs: 3}, []uint16{1}, api.ErrPlan)
		refused(t, p, api.Config{Sudogs: 65, Cache: 17}, nil, api.ErrPlan)
	}
}

func TestNewOfWrongConfigs(t *testing.T) {
	p := [][]api.Op{{{Kind: 1}}, nil}
	for _, x := range far() {
		refused(t, p, api.Config{Sudogs: x, Cache: 1}, nil, api.ErrRange)
		refused(t, p, api.Config{Sudogs: x, Cache: 16}, []uint16{1}, api.ErrRange)
		for _, y := range far() {
			refused(t, p, api.Config{Sudogs: x, Cache: y}, nil, api.ErrRange)
		}
	}
	for _, x := range append(far(), 0, 17, 18, 32, 64) {
		refused(t, p, api.Config{Cache: x}, nil, api.ErrRange)
		refused(t, p, api.Config{Sudogs: 64, Cache: x}, nil, api.ErrRange)
	}
}

// The fields of a new world are objects of the layers below.
func TestNewObjects(t *testing.T) {
	for gs := 1; gs <= 8; gs++ {
		w := made(t, make([][]api.Op, gs), api.Config{Sudogs: 5, Cache: 3}, []uint16{7, 9})
		if w.Config != (api.Config{Sudogs: 5, Cache: 3}) || w.Step != 0 || len(w.Gs) != gs || len(w.Rings) != 0 || len(w.Closed) != 0 || len(w.Sudogs) != 5 || len(w.Done) != 0 || !slices.Equal(w.Draws, []uint16{7, 9}) {
			t.Errorf("%+v", w)
		}
		if w.Bench.Len() != gs || len(w.Bench.Running()) != gs || w.Locks.Len() != 0 || w.Dice.Left() != 2 || w.Dice.Draw(5) != 2 || w.Dice.Draw(5) != 4 {
			t.Error("Bench, Locks or Dice")
		}
		// There are queues for all channels that may ever be, of so many things as there are sudogs.
		if !w.Queues.Push(15, 4) || w.Queues.Push(16, 3) || w.Queues.Push(0, 5) || !w.Queues.Push(0, 0) {
			t.Error("Queues")
		}
		for x := range 5 {
			if y, ok := w.Pool.Take(gs - 1); !ok || x != y {
				t.Errorf("Take is %d, %v; want %d", y, ok, x)
			}
		}
		if _, ok := w.Pool.Take(0); ok {
			t.Error("there are more things than sudogs")
		}
		for x := range 4 {
			if !w.Pool.Give(gs-1, x) || w.Pool.Give(gs, x) {
				t.Errorf("Give of %d", x)
			}
		}
		// A cache of at most 3 had to give two of its own away.
		if !slices.Equal(w.Pool.Middle(), []int{2, 1}) || !slices.Equal(w.Pool.Cache(gs-1), []int{0, 3}) {
			t.Errorf("Middle is %v, Cache %v", w.Pool.Middle(), w.Pool.Cache(gs-1))
		}
	}
}

func TestNewSharesNone(t *testing.T) {
	d := draws{2}
	for range 200 {
		p, l, c := roomy(d.plan()), roomy([]uint16{5, 6, 7}), api.Config{Sudogs: d.n(65), Cache: 1 + d.n(16)}
		wasP, wasL, want := whole(p), whole(l), bare(first(p, c, l))
		w := made(t, p, c, l)
		apart(t, p, l, w)
		if !same(wasP, whole(p)) || !same(wasL, whole(l)) {
			t.Fatal("New changed what it was given")
		}
		scribble(&p)
		scribble(&l)
		holds(t, w, want)
		if w.Dice.Draw(100) != 5 {
			t.Fatal("the dice keep what was handed in")
		}
	}
}

func TestNewOfManyDraws(t *testing.T) {
	l := make([]uint16, 100000)
	for i := range l {
		l[i] = uint16(i)
	}
	c := api.Config{Sudogs: 1, Cache: 1}
	holds(t, made(t, idle(), c, l), first(idle(), c, l))
}

// full is a State in which each thing there may be is, written down whole.
func full() api.State {
	recv := api.G{
		Ops: []api.Op{{Kind: 3, Ch: 1}}, Place: api.AtWake, Status: api.Parks, Call: 2, Param: -1, Mine: 3, Hold: -1, Arrive: 6, With: -1, Fire: -1, Res: api.Result{Case: -1},
	}
	choose := api.G{
		Ops: []api.Op{{Kind: 1, N: 2}, {Kind: 9, Cases: []api.Case{{Ch: 2}, {Send: true, Ch: 1, V: 8}, {Ch: 7}}}}, At: 1,
		Place: api.AtQueues, Token: true, Call: 7, Picked: true, Param: 5, Mine: 4, Hold: 3, T: 11, Arrive: 12, Point: 13, With: 1, Fire: 2,
		Res: api.Result{Code: 1, Case: 2, V: 3, Ok: true, N: 4}, Order: []int{1, 0}, Locks: []int{1, 2}, Sgs: []int{5, 4, -1}, Wakes: []int{0, 0, 2}, K: 1,
	}
	ended := api.G{Place: api.AtBegin, Status: api.Ended, Param: -1, Mine: -1, Hold: -1, With: -1, Fire: -1, Res: api.Result{Case: -1}}
	return api.State{
		Config: api.Config{Sudogs: 8, Cache: 2}, Step: 20, Gs: []api.G{recv, choose, ended},
		Chans: []api.Chan{{Lock: 1, Recv: []int{3, 6}, Send: []int{4}}, {Cap: 3, Buf: []int64{-7, 1 << 40}, Closed: true, Lock: -1, Recv: []int{5}}},
		Sudogs: []api.Sudog{
			{}, {}, {},
			{Live: true, G: 0, Ch: 1, Case: -1},
			{Live: true, G: 1, Ch: 1, Case: 1, Send: true, V: 8},
			{Live: true, G: 1, Ch: 2, Case: 0},
			{Live: true, G: 2, Ch: 1, Case: 4, V: 3, Done: true},
			{},
		},
		Cache: [][]int{{1}, nil, {2}}, Middle: []int{0}, Fresh: 7, Draws: []uint16{4, 65535, 6}, Drawn: 2,
		Done: []api.Mark{{G: 1, Call: 1, Point: 2, With: -1, Fire: -1, Re: 3, Res: api.Result{Code: 1, Case: -1, Ok: true, N: 1}}},
	}
}

func TestOfObjects(t *testing.T) {
	w := state.Of(full())
	holds(t, w, full())
	if w.Config != (api.Config{Sudogs: 8, Cache: 2}) || w.Step != 20 || !slices.Equal(w.Closed, []bool{false, true}) || !slices.Equal(w.Sudogs, full().Sudogs) || !slices.Equal(w.Draws, []uint16{4, 65535, 6}) || !slices.Equal(w.Done, full().Done) {
		t.Errorf("%+v", w)
	}
	if b := w.Bench; b.Len() != 3 || b.Status(0) != api.Parks || b.Token(0) || b.Status(1) != api.Runs || !b.Token(1) || b.Status(2) != api.Ended || b.Token(2) {
		t.Error("Bench")
	}
	if r := w.Rings; len(r) != 2 || r[0].Room() != 0 || r[0].Len() != 0 || r[1].Room() != 3 || !slices.Equal(r[1].All(), []int64{-7, 1 << 40}) {
		t.Error("Rings")
	}
	if l := w.Locks; l.Len() != 2 || l.Owner(0) != 1 || l.Owner(1) != -1 {
		t.Error("Locks")
	}
	for k, want := range [16][]int{{3, 6}, {4}, {5}, {}} {
		if l := w.Queues.List(k); !slices.Equal(l, want) {
			t.Errorf("queue %d is %v; want %v", k, l, want)
		}
	}
	if !w.Queues.Push(15, 7) || w.Queues.Push(16, 0) || w.Queues.Push(14, 8) {
		t.Error("Queues")
	}
	if p := w.Pool; p.Fresh() != 7 || p.Count() != 4 || !slices.Equal(p.Middle(), []int{0}) || !slices.Equal(p.Cache(0), []int{1}) || len(p.Cache(1)) != 0 || !slices.Equal(p.Cache(2), []int{2}) {
		t.Error("Pool")
	}
	if d := w.Dice; d.Drawn() != 2 || d.Left() != 1 || d.Draw(10) != 6 {
		t.Error("Dice")
	}
	for g := range full().Gs {
		got, want := w.Gs[g], full().Gs[g]
		got.Status, got.Token, want.Status, want.Token = 0, false, 0, false
		if !same(got, want) {
			t.Errorf("%+v; want %+v", got, want)
		}
	}
}

func TestOfAndState(t *testing.T) {
	d := draws{3}
	for range 3000 {
		s := d.state()
		w := state.Of(s)
		holds(t, w, s)
		holds(t, state.Of(w.State()), s)
	}
}

// A sudog that isn't live, and a goroutine at AtBegin, may have anything: it is kept.
func TestOfKeepsWhatNobodyAsksFor(t *testing.T) {
	s := full()
	s.Sudogs[7] = api.Sudog{G: -5, Ch: 99, Case: -3, Send: true, V: math.MinInt64, Done: true}
	s.Sudogs[0] = api.Sudog{G: 1, Ch: 1, V: 4}
	s.Gs[2] = s.Gs[1]
	s.Gs[2].Place = api.AtBegin
	holds(t, state.Of(s), s)
}

func TestOfTheSmallestAndTheGreatest(t *testing.T) {
	small := api.State{Config: api.Config{Cache: 1}, Gs: []api.G{{}}, Cache: [][]int{nil}}
	// Param, Mine and Hold are sudogs: without one they are -1.
	small.Gs[0] = emptyG(small.Gs[0])
	holds(t, state.Of(small), small)
	small.Sudogs, small.Cache, small.Chans, small.Draws, small.Done = []api.Sudog{}, [][]int{{}}, []api.Chan{}, []uint16{}, []api.Mark{}
	small.Gs[0].Ops, small.Gs[0].Wakes = []api.Op{}, []int{}
	holds(t, state.Of(small), small)

	great := api.State{Config: api.Config{Sudogs: 64, Cache: 16}, Fresh: 64}
	for range 8 {
		great.Chans = append(great.Chans, api.Chan{Cap: 4, Buf: []int64{1, 2, 3, 4}, Lock: 7})
	}
	for g := range 8 {
		great.Gs = append(great.Gs, emptyG(api.G{Ops: slices.Repeat([]api.Op{{Kind: 9, Cases: make([]api.Case, 6)}}, 16), At: 16, Place: g}))
		great.Cache = append(great.Cache, nil)
	}
	for x := range 64 {
		o := api.Sudog{Live: true, G: x % 8, Ch: 1 + x%7, Case: 1 << 40, Send: x%2 == 0}
		great.Sudogs = append(great.Sudogs, o)
		if c := &great.Chans[o.Ch-1]; o.Send {
			c.Send = append([]int{x}, c.Send...)
		} else {
			c.Recv = append(c.Recv, x)
		}
	}
	holds(t, state.Of(great), great)
}

// In a World the Status and Token of a G may be anything: those of its Bench count.
func TestStateOfStatusAndToken(t *testing.T) {
	w := state.Of(full())
	for g := range w.Gs {
		w.Gs[g].Status, w.Gs[g].Token = 1-g, g != 1
	}
	holds(t, w, full())
	w.Bench.Set(0, api.Ended, true)
	w.Bench.Set(2, api.Parks, false)
	want := full()
	want.Gs[0].Status, want.Gs[0].Token, want.Gs[2].Status = api.Ended, true, api.Parks
	holds(t, w, want)
}

// What a World's fields tell is what State tells, whoever changed them.
func TestStateOfObjects(t *testing.T) {
	w, s := state.Of(full()), full()
	w.Step = 33
	w.Rings[1].Get()
	w.Closed[0] = true
	w.Locks.Free(0, 1)
	w.Locks.Try(1, 2)
	w.Queues.Drop(3)
	w.Queues.Push(3, 4)
	w.Queues.Drop(4)
	w.Queues.Push(0, 3)
	w.Pool.Take(0)
	w.Sudogs[1] = api.Sudog{Live: true, Ch: 2, Case: -1, Send: true}
	w.Queues.Push(3, 1)
	w.Dice.Draw(2)
	w.Done = append(w.Done, api.Mark{G: 2, Res: api.Result{Code: 7}})
	w.Gs[0].Wakes = []int{1}

	s.Step = 33
	s.Chans[0].Closed, s.Chans[0].Lock, s.Chans[0].Recv, s.Chans[0].Send = true, -1, []int{6, 3}, nil
	s.Chans[1].Buf, s.Chans[1].Lock, s.Chans[1].Send = []int64{1 << 40}, 2, []int{1}
	s.Cache[0] = nil
	s.Sudogs[1] = api.Sudog{Live: true, Ch: 2, Case: -1, Send: true}
	s.Drawn = 3
	s.Done = append(s.Done, api.Mark{G: 2, Res: api.Result{Code: 7}})
	s.Gs[0].Wakes = []int{1}
	holds(t, w, s)
}

func TestOfSharesNone(t *testing.T) {
	d := draws{4}
	for range 300 {
		s := roomy(d.state())
		was, want := whole(s), bare(s)
		w := state.Of(s)
		apart(t, s, w)
		if !same(was, whole(s)) {
			t.Fatal("Of changed what it was given")
		}
		scribble(&s)
		holds(t, w, want)
	}
}

func TestStateSharesNone(t *testing.T) {
	d := draws{5}
	for range 300 {
		want := d.state()
		w := state.Of(want)
		s, other := w.State(), w.State()
		apart(t, w, s, other)
		scribble(&s)
		holds(t, w, want)
		if !same(other, want) {
			t.Fatal("two answers share memory")
		}
		// What is done behind the call isn't seen in what was answered.
		for g := range w.Gs {
			w.Clear(g)
		}
		for i, r := range w.Rings {
			r.Get()
			w.Closed[i] = !w.Closed[i]
		}
		for k := range 16 {
			w.Queues.Pop(k)
		}
		clear(w.Sudogs)
		clear(w.Draws)
		clear(w.Done)
		w.Pool.Take(0)
		if !same(other, want) {
			t.Fatal("what was answered changes")
		}
	}
}

// Two worlds of one State, or of one plan, tell nothing of each other.
func TestTwoWorlds(t *testing.T) {
	s := full()
	a, b := state.Of(s), state.Of(s)
	apart(t, a, b)
	a.Gs[1].Place = api.AtReady
	a.Common(1)
	a.Serve(1, 4, true)
	a.Pair(1, 3)
	holds(t, b, full())
	p := [][]api.Op{{{Kind: 9, Cases: []api.Case{{Ch: 1}}}}}
	c := api.Config{Sudogs: 1, Cache: 1}
	v, w := made(t, p, c, []uint16{1}), made(t, p, c, []uint16{1})
	apart(t, v, w)
	v.Gs[0].Ops[0].Cases[0].Ch = 2
	v.Pool.Take(0)
	v.Dice.Draw(1)
	holds(t, w, first(p, c, []uint16{1}))
}

func TestOp(t *testing.T) {
	d := draws{6}
	for range 1000 {
		s := d.state()
		w := state.Of(s)
		for g := range s.Gs {
			if o := w.Op(g); !same(o, opOf(s, g)) {
				t.Fatalf("Op(%d) is %+v; want %+v", g, o, opOf(s, g))
			}
		}
		holds(t, w, s)
	}
}

func TestOpAtEachPlaceInAPlan(t *testing.T) {
	ops := []api.Op{{Kind: 1, N: 4}, {Kind: 2, Ch: 1, V: 255}, {Kind: 9, Else: true, Cases: []api.Case{{Send: true, Ch: 8, V: 1}, {}}}}
	w := made(t, [][]api.Op{nil, ops, ops[:1]}, api.Config{Cache: 1}, nil)
	for at := range 4 {
		w.Gs[1].At = at
		want := api.Op{}
		if at < 3 {
			want = ops[at]
		}
		if o := w.Op(1); !same(o, want) {
			t.Errorf("at %d Op is %+v; want %+v", at, o, want)
		}
	}
	if o := w.Op(0); !same(o, api.Op{}) {
		t.Errorf("of one without ops Op is %+v", o)
	}
	if o := w.Op(2); !same(o, ops[0]) {
		t.Errorf("Op(2) is %+v", o)
	}
	// The last answer of all leaves At there.
	w.Gs[0].At = 1
	if o := w.Op(0); !same(o, api.Op{}) {
		t.Errorf("behind all ops Op is %+v", o)
	}
}

func TestOpIsNewMemory(t *testing.T) {
	d := draws{7}
	for range 200 {
		s := d.state()
		w := state.Of(s)
		for g := range s.Gs {
			o, other := w.Op(g), w.Op(g)
			apart(t, w, o, other)
			scribble(&o)
			if !same(other, opOf(s, g)) {
				t.Fatal("two answers share memory")
			}
		}
		holds(t, w, s)
	}
}

func TestMade(t *testing.T) {
	for n := range 9 {
		s := full()
		for g := range s.Gs {
			toldClear(s, g)
		}
		s.Sudogs, s.Middle, s.Cache, s.Fresh = make([]api.Sudog, 8), nil, make([][]int, 3), 0
		s.Chans = slices.Repeat([]api.Chan{{Lock: -1}}, n)
		w := state.Of(s)
		for ch := -20; ch <= 80; ch++ {
			if ok := w.Made(ch); ok != (ch > 0 && ch <= n) {
				t.Errorf("of %d channels Made(%d) is %v", n, ch, ok)
			}
		}
		for _, ch := range far() {
			if w.Made(ch) {
				t.Errorf("of %d channels Made(%d) is true", n, ch)
			}
		}
		holds(t, w, s)
	}
}

func TestClear(t *testing.T) {
	w, want := state.Of(full()), full()
	w.Clear(1)
	want.Gs[1] = api.G{
		Ops: full().Gs[1].Ops, At: 1, Place: api.AtQueues, Status: api.Runs, Token: true,
		Param: -1, Mine: -1, Hold: -1, With: -1, Fire: -1, Res: api.Result{Case: -1},
	}
	holds(t, w, want)
	w.Clear(0)
	want.Gs[0] = api.G{Ops: full().Gs[0].Ops, Place: api.AtWake, Status: api.Parks, Param: -1, Mine: -1, Hold: -1, With: -1, Fire: -1, Res: api.Result{Case: -1}}
	holds(t, w, want)
	w.Clear(2)
	holds(t, w, want)
}

func TestPair(t *testing.T) {
	w, want := state.Of(full()), full()
	w.Pair(1, 6)
	want.Gs[1].Point, want.Gs[1].With = 11, 2
	want.Gs[2].Point, want.Gs[2].With, want.Gs[2].Fire = 11, 1, 4
	holds(t, w, want)
	// One that isn't of a select has no case.
	w.Pair(1, 3)
	want.Gs[1].With = 0
	want.Gs[0].Point, want.Gs[0].With, want.Gs[0].Fire = 11, 1, -1
	holds(t, w, want)
	// One with itself.
	w, want = state.Of(full()), full()
	w.Pair(1, 4)
	want.Gs[1].Point, want.Gs[1].With, want.Gs[1].Fire = 11, 1, 1
	holds(t, w, want)
}

func TestServe(t *testing.T) {
	w, want := state.Of(full()), full()
	w.Serve(1, 6, false)
	want.Sudogs[6].Done = false
	want.Gs[2].Param = 6
	want.Gs[1].Wakes, want.Gs[1].Hold = []int{0, 0, 2, 2}, -1
	holds(t, w, want)
	w.Serve(2, 3, true)
	want.Sudogs[3].Done = true
	want.Gs[0].Param = 3
	want.Gs[2].Wakes = []int{0}
	holds(t, w, want)
	// One serves its own sudog.
	w, want = state.Of(full()), full()
	w.Serve(1, 4, true)
	want.Sudogs[4].Done = true
	want.Gs[1].Param, want.Gs[1].Hold, want.Gs[1].Wakes = 4, -1, []int{0, 0, 2, 1}
	holds(t, w, want)
}

// Clear, Pair and Serve of each goroutine, and each live sudog, of many States are as the chapter's words say.
func TestOfManyStates(t *testing.T) {
	d := draws{8}
	for range 150 {
		s := d.state()
		for g := range s.Gs {
			w, want := state.Of(s), bare(s)
			w.Clear(g)
			toldClear(want, g)
			holds(t, w, want)
			for _, x := range liveOf(s) {
				w, want := state.Of(s), bare(s)
				w.Pair(g, x)
				toldPair(want, g, x)
				holds(t, w, want)
				done := d.is()
				w.Serve(g, x, done)
				toldServe(want, g, x, done)
				holds(t, w, want)
			}
		}
	}
}

// What one has in hand isn't seen in what was answered, nor in another one.
func TestServeAgainAndAgain(t *testing.T) {
	w, want := state.Of(full()), full()
	for i := range 100 {
		g, x := i%3, 3+i%4
		was := w.State()
		kept := bare(was)
		w.Serve(g, x, i%2 == 0)
		toldServe(want, g, x, i%2 == 0)
		holds(t, w, want)
		if !same(was, kept) {
			t.Fatal("what was answered changes")
		}
		apart(t, w, was)
	}
}

// common tells an error unless Common answers true, and one goroutine is at a place then.
func common(t *testing.T, w *state.World, g, place int) {
	t.Helper()
	from := w.Gs[g].Place
	if !w.Common(g) || w.Gs[g].Place != place {
		t.Errorf("from place %d Common leads to %d; want %d", from, w.Gs[g].Place, place)
	}
}

// at answers a State of two goroutines and three channels, of which the first one is at a place, by an op on the channel 2.
func at(place, kind int) api.State {
	me := emptyG(api.G{Ops: []api.Op{{Kind: kind, Ch: 2}}, Place: place, Call: 3})
	me.T, me.Res = 9, api.Result{Code: 5, Case: 1, V: 4, Ok: true, N: 2}
	other := emptyG(api.G{Ops: []api.Op{{Kind: 3, Ch: 2}}, Place: api.AtWake, Status: api.Parks})
	return api.State{
		Config: api.Config{Sudogs: 4, Cache: 2}, Step: 10, Gs: []api.G{me, other},
		Chans:  []api.Chan{{Lock: 1}, {Lock: -1}, {Lock: 0}},
		Sudogs: make([]api.Sudog, 4), Cache: make([][]int, 2), Draws: []uint16{1},
	}
}

func TestAtLock(t *testing.T) {
	for kind := 2; kind <= 8; kind++ {
		want := at(api.AtLock, kind)
		w := state.Of(want)
		place := api.AtCheck
		if kind == api.OpClose {
			place = api.AtShut
		}
		common(t, w, 0, place)
		want.Gs[0].Place, want.Chans[1].Lock = place, 0
		holds(t, w, want)
	}
}

// A lock that somebody has, be it the goroutine itself: the step is used up, the place stays.
func TestAtLockThatIsTaken(t *testing.T) {
	for kind := 2; kind <= 8; kind++ {
		for owner := range 2 {
			want := at(api.AtLock, kind)
			want.Chans[1].Lock = owner
			w := state.Of(want)
			for range 3 {
				common(t, w, 0, api.AtLock)
				holds(t, w, want)
			}
			// It is tried again, until it is free.
			w.Locks.Free(1, owner)
			if !w.Common(0) || w.Gs[0].Place == api.AtLock || w.Locks.Owner(1) != 0 {
				t.Errorf("the place is %d", w.Gs[0].Place)
			}
		}
	}
}

// Of two that want one lock only the first one gets it.
func TestTwoAtLock(t *testing.T) {
	s := at(api.AtLock, api.OpSend)
	s.Gs[1].Place, s.Gs[1].Status = api.AtLock, api.Runs
	w := state.Of(s)
	common(t, w, 1, api.AtCheck)
	common(t, w, 0, api.AtLock)
	w.Gs[1].Place = api.AtUnlock
	common(t, w, 1, api.AtAnswer)
	common(t, w, 0, api.AtCheck)
	if w.Locks.Owner(1) != 0 {
		t.Error("who has the lock?")
	}
}

func TestAtRelease(t *testing.T) {
	want := at(api.AtRelease, api.OpRecv)
	want.Chans[1].Lock = 0
	w := state.Of(want)
	common(t, w, 0, api.AtPark)
	want.Gs[0].Place, want.Chans[1].Lock = api.AtPark, -1
	holds(t, w, want)
}

func TestAtPark(t *testing.T) {
	for _, c := range []struct {
		status int
		token  bool
		then   int
		left   bool
	}{{0, false, 1, false}, {0, true, 0, false}, {1, false, 1, false}, {1, true, 1, true}, {2, false, 2, false}, {2, true, 2, true}} {
		for _, kind := range []int{api.OpRecv, api.OpSelect} {
			want := at(api.AtPark, kind)
			want.Gs[0].Ops[0].Ch = 2 * (1 - kind/9)
			want.Gs[0].Status, want.Gs[0].Token = c.status, c.token
			w := state.Of(want)
			common(t, w, 0, api.AtWake)
			want.Gs[0].Place, want.Gs[0].Status, want.Gs[0].Token = api.AtWake, c.then, c.left
			holds(t, w, want)
		}
	}
}

func TestAtFree(t *testing.T) {
	want := at(api.AtFree, api.OpRecv)
	want.Fresh = 3
	for x := range 3 {
		want.Sudogs[x] = api.Sudog{Live: true, G: x % 2, Ch: 2, Case: x, Send: true, V: 7, Done: true}
	}
	want.Gs[0].Mine = 2
	w := state.Of(want)
	common(t, w, 0, api.AtAnswer)
	want.Gs[0].Place, want.Gs[0].Mine = api.AtAnswer, -1
	want.Sudogs[2] = api.Sudog{}
	want.Cache[0] = []int{2}
	holds(t, w, want)
	// The one who frees it keeps it, whosever it was; a cache that is full gives to the middle.
	for _, x := range []int{1, 0} {
		w.Gs[0].Place, w.Gs[0].Mine = api.AtFree, x
		common(t, w, 0, api.AtAnswer)
	}
	want.Sudogs[0], want.Sudogs[1] = api.Sudog{}, api.Sudog{}
	want.Cache[0], want.Middle = []int{2, 0}, []int{1}
	holds(t, w, want)
	if x, ok := w.Pool.Take(0); x != 0 || !ok {
		t.Errorf("Take is %d, %v", x, ok)
	}
}

func TestAtUnlock(t *testing.T) {
	for _, wakes := range [][]int{nil, {1}, {1, 0}, {1, 1, 1}} {
		want := at(api.AtUnlock, api.OpTrySend)
		want.Chans[1].Lock, want.Gs[0].Wakes = 0, wakes
		w := state.Of(want)
		place := api.AtReady
		if len(wakes) == 0 {
			place = api.AtAnswer
		}
		common(t, w, 0, place)
		want.Gs[0].Place, want.Chans[1].Lock = place, -1
		holds(t, w, want)
	}
}

func TestAtReady(t *testing.T) {
	want := at(api.AtReady, api.OpSend)
	want.Gs = append(want.Gs, emptyG(api.G{Status: api.Ended}))
	want.Cache = append(want.Cache, nil)
	want.Gs[0].Wakes = []int{1, 2, 1, 0, 1}
	w := state.Of(want)
	step := func(left []int) {
		t.Helper()
		place := api.AtReady
		if left == nil {
			place = api.AtAnswer
		}
		common(t, w, 0, place)
		want.Gs[0].Place, want.Gs[0].Wakes = place, left
		holds(t, w, want)
	}
	// One that parks runs.
	want.Gs[1].Status = api.Runs
	step([]int{2, 1, 0, 1})
	// One that has ended stays so.
	step([]int{1, 0, 1})
	// One that runs, who has it itself among them, has a token.
	want.Gs[1].Token = true
	step([]int{0, 1})
	want.Gs[0].Token = true
	step([]int{1})
	// One that has a token keeps it.
	step(nil)
}

// A select comes to two of the places, where it has no channel of its own.
func TestCommonOfASelect(t *testing.T) {
	s := at(api.AtPark, api.OpSelect)
	s.Gs[0].Ops[0] = api.Op{Kind: api.OpSelect, Cases: []api.Case{{Ch: 1}}}
	s.Gs[0].Wakes = []int{1}
	w := state.Of(s)
	w.Gs[0].Place = api.AtReady
	common(t, w, 0, api.AtAnswer)
	w.Gs[0].Place = api.AtPark
	common(t, w, 0, api.AtWake)
	s.Gs[0].Place, s.Gs[0].Status, s.Gs[0].Wakes, s.Gs[1].Status = api.AtWake, api.Parks, nil, api.Runs
	holds(t, w, s)
}

func TestCommonAtOtherPlaces(t *testing.T) {
	places := append(far(), math.MinInt+4, 1<<8+4, 1<<16+12, 1<<32+13, 1<<32+17, -4, -13)
	for place := -300; place <= 300; place++ {
		places = append(places, place)
	}
	own := []int{api.AtLock, api.AtRelease, api.AtPark, api.AtFree, api.AtUnlock, api.AtReady}
	for _, place := range places {
		if slices.Contains(own, place) {
			continue
		}
		for g := range full().Gs {
			want := full()
			want.Gs[g].Place = place
			w := state.Of(want)
			if w.Common(g) {
				t.Errorf("Common at %d is true", place)
			}
			holds(t, w, want)
		}
	}
}

// ready answers a whole State in which a goroutine has in hand what its place asks for.
func ready(d *draws, place int) (api.State, int) {
	for {
		s := d.state()
		g := d.n(len(s.Gs))
		me := &s.Gs[g]
		me.Place = place
		ch := opOf(s, g).Ch
		has := ch >= 1 && ch <= len(s.Chans)
		switch place {
		case api.AtRelease, api.AtUnlock:
			if has {
				s.Chans[ch-1].Lock = g
				return s, g
			}
		case api.AtLock:
			if has {
				return s, g
			}
		case api.AtFree:
			if me.Mine != -1 && !somewhere(s, me.Mine) {
				return s, g
			}
		case api.AtReady:
			if len(me.Wakes) > 0 {
				return s, g
			}
		default:
			return s, g
		}
	}
}

// Steps at each place, from many States on, are as the chapter's words say.
func TestCommonOfManyStates(t *testing.T) {
	d := &draws{9}
	for place := api.AtBegin; place <= api.AtFrees; place++ {
		for range 200 {
			s, g := ready(d, place)
			w, want := state.Of(s), bare(s)
			told := toldCommon(&want, g)
			if ok := w.Common(g); ok != told {
				t.Fatalf("Common at %d is %v", place, ok)
			}
			holds(t, w, want)
		}
	}
}

// A long row of calls on one world.
func TestLongRow(t *testing.T) {
	d := &draws{10}
	for range 20 {
		want := bare(d.state())
		w := state.Of(want)
		want = bare(want)
		for i := range 300 {
			g, live := d.n(len(want.Gs)), liveOf(want)
			call := fmt.Sprint("call ", i)
			switch k := d.n(8); {
			case k == 0:
				w.Clear(g)
				toldClear(want, g)
			case k <= 2 && len(live) > 0:
				x := d.of(live)
				w.Pair(g, x)
				toldPair(want, g, x)
			case k <= 4 && len(live) > 0:
				x, done := d.of(live), d.is()
				w.Serve(g, x, done)
				toldServe(want, g, x, done)
			default:
				place := d.of([]int{api.AtLock, api.AtRelease, api.AtPark, api.AtUnlock, api.AtReady, api.AtLook})
				ch := opOf(want, g).Ch
				has := ch >= 1 && ch <= len(want.Chans)
				if place == api.AtLock && !has || (place == api.AtRelease || place == api.AtUnlock) && !(has && want.Chans[ch-1].Lock == g) || place == api.AtReady && len(want.Gs[g].Wakes) == 0 {
					continue
				}
				w.Gs[g].Place, want.Gs[g].Place = place, place
				call += fmt.Sprint(" at place ", place)
				if ok := w.Common(g); ok != toldCommon(&want, g) {
					t.Fatalf("%s: Common is %v", call, ok)
				}
			}
			if s := w.State(); !same(s, want) {
				t.Fatalf("%s: State is\n%+v; want\n%+v", call, s, want)
			}
		}
	}
}
