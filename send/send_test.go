package send_test

import (
	"fmt"
	"math"
	"slices"
	"testing"

	"handoff/api"
	"handoff/send"
	"handoff/state"
)

// done is the result of a value that was sent.
func done() api.Result { return api.Result{Code: api.ResDone, Case: -1, Ok: true} }

// code is a result of which nothing more is said.
func code(c int) api.Result { return api.Result{Code: c, Case: -1} }

// far are numbers that are too great or too small; cut to 8, 16 or 32 bits some of them would be right.
func far() []int {
	return []int{-1, -2, -255, 1 - 1<<8, 1 - 1<<16, 1 - 1<<32, math.MinInt32, math.MinInt + 1, math.MinInt, 16, 17, 64, 1 << 8, 1<<8 + 1, 1<<16 + 8, 1 << 32, 1<<32 + 5, math.MaxInt32, 1 << 62, math.MaxInt}
}

// base answers a State in which goroutine 0 sends 9 to the channel 2, and each thing there may be has something in it.
func base(kind, place int) api.State {
	me := api.G{
		Ops: []api.Op{{Kind: api.OpLen, Ch: 1}, {Kind: kind, Ch: 2, V: 9}}, At: 1, Place: place, Token: true, Call: 3,
		Param: -1, Mine: -1, Hold: -1, T: 11, Arrive: 12, Point: 13, With: 7, Fire: 4,
		Res: api.Result{Code: 7, Case: 5, V: 6, Ok: true, N: 8}, Locks: []int{1, 2}, Wakes: []int{2}, K: 1,
	}
	recv := api.G{Ops: []api.Op{{Kind: api.OpRecv, Ch: 2}}, Place: api.AtWake, Status: api.Parks, Call: 1, Param: -1, Mine: 2, Hold: -1, Arrive: 4, With: -1, Fire: -1, Res: code(0)}
	choose := api.G{
		Ops:   []api.Op{{Kind: api.OpSelect, Cases: []api.Case{{Ch: 1}, {Ch: 2}}}},
		Place: api.AtWake, Status: api.Parks, Call: 2, Param: -1, Mine: -1, Hold: -1, Arrive: 6, With: -1, Fire: -1, Res: code(0),
		Order: []int{1, 0}, Locks: []int{1, 2}, Sgs: []int{4, 3}, K: 1,
	}
	return api.State{
		Config: api.Config{Sudogs: 8, Cache: 2}, Step: 20, Gs: []api.G{me, recv, choose},
		Chans: []api.Chan{
			{Cap: 3, Buf: []int64{-4, 1 << 40}, Lock: 2, Recv: []int{4}},
			{Lock: 0, Recv: []int{2, 3}, Send: []int{5}},
			{Cap: 1, Closed: true, Lock: -1},
		},
		Sudogs: []api.Sudog{
			{}, {},
			{Live: true, G: 1, Ch: 2, Case: -1, V: 50},
			{Live: true, G: 2, Ch: 2, Case: 1, V: 51},
			{Live: true, G: 2, Ch: 1, Case: 0, V: 52},
			{Live: true, G: 1, Ch: 2, Case: -1, Send: true, V: 53},
			{Live: true, G: 1, Ch: 2, Case: 0, V: 54},
			{},
		},
		Cache: [][]int{{0}, nil, nil}, Middle: []int{1}, Fresh: 7, Draws: []uint16{4, 6}, Drawn: 1,
		Done: []api.Mark{{G: 1, Call: 1, Point: 2, With: -1, Fire: -1, Re: 3, Res: done()}},
	}
}

// steps ends a test unless Step of goroutine 0 is true, and changes a State as told.
func steps(t *testing.T, s api.State, change func(s *api.State)) {
	t.Helper()
	w := state.Of(s)
	if !send.Step(w, 0) {
		t.Fatalf("Step at %d is false", s.Gs[0].Place)
	}
	change(&s)
	holds(t, w, s)
}

// each calls f by both kinds of sends.
func each(f func(kind int)) {
	f(api.OpSend)
	f(api.OpTrySend)
}

// channels calls f with all that a channel may be, but for its queues.
func channels(f func(c api.Chan)) {
	for room := range 5 {
		for n := range room + 1 {
			for _, closed := range []bool{false, true} {
				f(api.Chan{Cap: room, Buf: []int64{5, 6, 7, 8}[:n:n], Closed: closed})
			}
		}
	}
}

// with answers base's State with another channel 2, whose lock goroutine 0 has.
func with(kind, place int, c api.Chan) api.State {
	s := base(kind, place)
	c.Buf = slices.Clone(c.Buf)
	s.Chans[1] = c
	return s
}

// sets answers a change of goroutine 0.
func sets(f func(me *api.G)) func(*api.State) {
	return func(s *api.State) { f(&s.Gs[0]) }
}

func TestAtLook(t *testing.T) {
	look := func(s api.State, room bool) {
		t.Helper()
		steps(t, s, sets(func(me *api.G) {
			me.Place = api.AtLock
			if !room {
				me.Place, me.Point = api.AtAgain, 20
			}
		}))
	}
	each(func(kind int) {
		channels(func(c api.Chan) {
			look(with(kind, api.AtLook, c), len(c.Buf) < c.Cap)
			// Of a channel that has places those who receive don't count, of one that has none they alone do.
			c.Recv, c.Send = []int{2, 3}, nil
			look(with(kind, api.AtLook, c), len(c.Buf) < c.Cap || c.Cap == 0)
			c.Recv, c.Send = []int{3}, []int{5}
			look(with(kind, api.AtLook, c), len(c.Buf) < c.Cap || c.Cap == 0)
			c.Recv, c.Send = nil, []int{5}
			look(with(kind, api.AtLook, c), len(c.Buf) < c.Cap)
			// Whoever has the lock is all one.
			c.Lock = 2
			look(with(kind, api.AtLook, c), len(c.Buf) < c.Cap)
		})
	})
}

func TestAtAgain(t *testing.T) {
	each(func(kind int) {
		channels(func(c api.Chan) {
			for _, recv := range [][]int{nil, {2, 3}} {
				c.Recv = recv
				steps(t, with(kind, api.AtAgain, c), sets(func(me *api.G) {
					if c.Closed {
						me.Point, me.Place = 0, api.AtLock
					} else {
						// The result's other fields stay.
						me.Res.Code, me.Place = api.ResNo, api.AtAnswer
					}
				}))
			}
		})
	})
}

func TestAtCheck(t *testing.T) {
	each(func(kind int) {
		channels(func(c api.Chan) {
			for _, recv := range [][]int{nil, {2, 3}} {
				c.Recv = recv
				steps(t, with(kind, api.AtCheck, c), sets(func(me *api.G) {
					me.Place = api.AtTake
					if c.Closed {
						me.Res, me.Point, me.Place = code(api.ResSend), 20, api.AtUnlock
					}
				}))
			}
		})
	})
}

func TestAtTake(t *testing.T) {
	each(func(kind int) {
		// One that waits by an operation of its own is taken at once.
		steps(t, base(kind, api.AtTake), func(s *api.State) {
			me, other := &s.Gs[0], &s.Gs[1]
			me.Hold, me.T, me.Point, me.With, me.Place = 2, 20, 20, 1, api.AtHand
			other.Point, other.With, other.Fire = 20, 0, -1
			s.Chans[1].Recv = []int{3}
		})
		// One that selects stays where it is.
		s := base(kind, api.AtTake)
		s.Chans[1].Recv = []int{3, 2}
		steps(t, s, sets(func(me *api.G) { me.Hold, me.Place = 3, api.AtWin }))
		// Of a channel that nobody receives from it's the ring's turn, whoever sends, or receives from another one.
		channels(func(c api.Chan) {
			steps(t, with(kind, api.AtTake, c), sets(func(me *api.G) { me.Place = api.AtRing }))
			c.Send = []int{5}
			steps(t, with(kind, api.AtTake, c), sets(func(me *api.G) { me.Place = api.AtRing }))
		})
	})
}

func TestAtWin(t *testing.T) {
	each(func(kind int) {
		s := base(kind, api.AtWin)
		s.Gs[0].Hold = 3
		steps(t, s, func(s *api.State) {
			me, other := &s.Gs[0], &s.Gs[2]
			me.T, me.Point, me.With, me.Place = 20, 20, 2, api.AtHand
			other.Picked, other.Point, other.With, other.Fire = true, 20, 0, 1
		})
		s = base(kind, api.AtWin)
		s.Gs[0].Hold, s.Gs[2].Picked = 3, true
		steps(t, s, func(s *api.State) {
			s.Gs[0].Hold, s.Gs[0].Place = -1, api.AtTake
			s.Chans[1].Recv = []int{2}
		})
	})
}

func TestAtHand(t *testing.T) {
	hand := func(s api.State, other int, recv []int) {
		t.Helper()
		x := s.Gs[0].Hold
		steps(t, s, func(s *api.State) {
			me := &s.Gs[0]
			me.Res, me.Hold, me.Place, me.Wakes = done(), -1, api.AtUnlock, []int{2, other}
			s.Gs[other].Param = x
			s.Sudogs[x].V, s.Sudogs[x].Done = 9, true
			s.Chans[1].Recv = recv
		})
	}
	each(func(kind int) {
		// One that is in its queue still, wherever there, and one that is in none.
		for x, c := range map[int]struct {
			other int
			recv  []int
		}{2: {1, []int{3}}, 3: {2, []int{2}}, 6: {1, []int{2, 3}}} {
			s := base(kind, api.AtHand)
			s.Gs[0].Hold = x
			hand(s, c.other, c.recv)
		}
		// Neither whether the channel is closed is asked again, nor whether the other one is picked.
		s := base(kind, api.AtHand)
		s.Gs[0].Hold, s.Chans[1].Closed, s.Gs[2].Picked = 3, true, true
		hand(s, 2, []int{2})
	})
}

func TestAtRing(t *testing.T) {
	each(func(kind int) {
		channels(func(c api.Chan) {
			for _, recv := range [][]int{nil, {2, 3}} {
				c.Recv = recv
				steps(t, with(kind, api.AtRing, c), func(s *api.State) {
					me := &s.Gs[0]
					switch {
					case len(c.Buf) < c.Cap:
						s.Chans[1].Buf = append(slices.Clone(c.Buf), 9)
						me.Res, me.Point, me.Place = done(), 20, api.AtUnlock
					case kind == api.OpTrySend:
						me.Res, me.Point, me.Place = code(api.ResNo), 20, api.AtUnlock
					default:
						me.Place = api.AtSudog
					}
				})
			}
		})
	})
}

func TestAtSudog(t *testing.T) {
	each(func(kind int) {
		// Its own cache comes first, then the middle, and then what was never given out.
		steps(t, base(kind, api.AtSudog), func(s *api.State) {
			s.Gs[0].Mine, s.Gs[0].Place = 0, api.AtQueue
			s.Sudogs[0] = api.Sudog{Live: true, Ch: 2, Case: -1, Send: true, V: 9}
			s.Cache[0] = nil
		})
		s := base(kind, api.AtSudog)
		s.Cache = [][]int{nil, {0}, nil}
		steps(t, s, func(s *api.State) {
			s.Gs[0].Mine, s.Gs[0].Place = 1, api.AtQueue
			s.Sudogs[1] = api.Sudog{Live: true, Ch: 2, Case: -1, Send: true, V: 9}
			s.Middle = nil
		})
		s = base(kind, api.AtSudog)
		s.Cache, s.Middle = [][]int{nil, {0}, {1}}, nil
		steps(t, s, func(s *api.State) {
			s.Gs[0].Mine, s.Gs[0].Place = 7, api.AtQueue
			s.Sudogs[7] = api.Sudog{Live: true, Ch: 2, Case: -1, Send: true, V: 9}
			s.Fresh = 8
		})
		// None is left: others keep two.
		s = base(kind, api.AtSudog)
		s.Config.Sudogs, s.Sudogs = 7, s.Sudogs[:7]
		s.Cache, s.Middle = [][]int{nil, {0}, {1}}, nil
		steps(t, s, sets(func(me *api.G) { me.Res.Code, me.Place = api.ResNone, api.AtUnlock }))
	})
}

func TestAtQueue(t *testing.T) {
	each(func(kind int) {
		for _, row := range [][]int{nil, {5}, {5, 3, 2}} {
			s := base(kind, api.AtQueue)
			s.Gs[0].Mine = 6
			s.Sudogs[6] = api.Sudog{Live: true, Ch: 2, Case: -1, Send: true, V: 9}
			s.Chans[1].Recv, s.Chans[1].Send = nil, row
			steps(t, s, func(s *api.State) {
				s.Gs[0].Arrive, s.Gs[0].Place = 20, api.AtRelease
				s.Chans[1].Send = append(slices.Clone(row), 6)
			})
		}
	})
}

func TestAtWake(t *testing.T) {
	each(func(kind int) {
		for _, served := range []bool{true, false} {
			// The channel counts no more: neither whether it is closed, nor whether there is one.
			for _, ch := range []int{2, 3, 0, 8} {
				s := base(kind, api.AtWake)
				s.Gs[0].Ops[1].Ch = ch
				// Param counts, not Mine.
				s.Gs[0].Param, s.Gs[0].Mine = 6, 2
				s.Sudogs[6].Done, s.Sudogs[2].Done = served, !served
				steps(t, s, sets(func(me *api.G) {
					me.Res, me.Param, me.Place = code(api.ResSend), -1, api.AtFree
					if served {
						me.Res = done()
					}
				}))
			}
		}
	})
}

// common are the places of layer 12.
func common() []int {
	return []int{api.AtLock, api.AtRelease, api.AtPark, api.AtFree, api.AtUnlock, api.AtReady}
}

// own are the places of the chapter's table.
func own() []int {
	return []int{api.AtLook, api.AtAgain, api.AtCheck, api.AtTake, api.AtWin, api.AtHand, api.AtRing, api.AtSudog, api.AtQueue, api.AtWake}
}

// held answers base's State, in which goroutine 0 has in hand all that places ask for.
func held(kind, place int) api.State {
	s := base(kind, place)
	s.Gs[0].Param, s.Gs[0].Hold, s.Gs[0].Mine = 2, 3, 6
	return s
}

func TestCommonPlaces(t *testing.T) {
	each(func(kind int) {
		for _, place := range common() {
			for owner := -1; owner < 2; owner++ {
				s := held(kind, place)
				if place != api.AtRelease && place != api.AtUnlock {
					s.Chans[1].Lock = owner
				}
				s.Gs[0].Token = owner == 0
				w, want := state.Of(s), state.Of(s)
				if !send.Step(w, 0) || !want.Common(0) {
					t.Fatalf("Step at %d is false", place)
				}
				holds(t, w, want.State())
			}
		}
	})
}

// stays ends a test unless Step of goroutine 0 is false, and nothing.
func stays(t *testing.T, s api.State) {
	t.Helper()
	w := state.Of(s)
	if send.Step(w, 0) {
		t.Fatalf("Step at %d of %+v is true", s.Gs[0].Place, w.Op(0))
	}
	holds(t, w, s)
}

func TestOtherPlaces(t *testing.T) {
	places := append(far(), 1<<8+4, 1<<16+12, 1<<32+8, math.MinInt+4, -4, -8)
	for place := -300; place <= 300; place++ {
		places = append(places, place)
	}
	each(func(kind int) {
		for _, place := range places {
			if !slices.Contains(common(), place) && !slices.Contains(own(), place) {
				stays(t, held(kind, place))
			}
		}
	})
}

func TestOtherOps(t *testing.T) {
	ops := []api.Op{{Kind: api.OpSelect, Cases: []api.Case{{Send: true, Ch: 2, V: 9}, {Ch: 1}}}}
	for _, kind := range []int{api.OpRecv, api.OpTryRecv, api.OpClose, api.OpLen, api.OpCap} {
		ops = append(ops, api.Op{Kind: kind, Ch: 2})
	}
	ops = append(ops, api.Op{Kind: api.OpMake, N: 2})
	for place := api.AtBegin; place <= api.AtFrees; place++ {
		for _, o := range ops {
			s := held(api.OpSend, place)
			s.Gs[0].Ops[1] = o
			stays(t, s)
		}
		// It is the op at At that counts: behind the last one there is none.
		s := held(api.OpSend, place)
		s.Gs[0].At = 2
		stays(t, s)
		s.Gs[0].At, s.Gs[0].Ops = 0, []api.Op{{Kind: api.OpRecv, Ch: 2}, {Kind: api.OpSend, Ch: 2}}
		stays(t, s)
	}
}

// Each goroutine, wherever it is in the list, does what is told of it.
func TestStepOfEachGoroutine(t *testing.T) {
	for g := range 8 {
		s := base(api.OpSend, api.AtCheck)
		me := s.Gs[0]
		s.Gs, s.Cache = slices.Repeat(s.Gs[1:2], 8), make([][]int, 8)
		s.Cache[7] = []int{0}
		s.Gs[g] = me
		s.Gs[g].Place = api.AtSudog
		w := state.Of(s)
		if !told(&s, g) || !send.Step(w, g) || w.Sudogs[w.Gs[g].Mine].G != g {
			t.Fatalf("Step of %d", g)
		}
		holds(t, w, s)
	}
}

// Steps at each place, from many States on, are as the chapter's words say.
func TestStepOfManyStates(t *testing.T) {
	d := &draws{1}
	for place := api.AtBegin; place <= api.AtFrees; place++ {
		for range 400 {
			s, g := d.ready(place)
			w := state.Of(s)
			if ok := send.Step(w, g); ok != told(&s, g) {
				t.Fatalf("Step at %d is %v", place, ok)
			}
			holds(t, w, s)
		}
	}
}

// idle answers base's State, in which goroutine 0 is no sender: it has no op, is at the place 44, and has some status.
func idle(status int) api.State {
	s := base(api.OpSend, 44)
	s.Gs[0].Ops, s.Gs[0].At, s.Gs[0].Status = nil, 0, status
	return s
}

// ends are two places, right and wrong ones.
func ends() [][2]int {
	return [][2]int{{api.AtWin, api.AtHand}, {api.AtPollWin, api.AtPollHand}, {0, 1}, {-5, 300}, {math.MinInt, math.MaxInt}, {1 << 32, 1 << 16}}
}

func TestTake(t *testing.T) {
	for _, e := range ends() {
		// Of each queue the first one is taken, by its number.
		for queue, c := range map[int]struct{ x, other, by int }{0: {4, 2, 0}, 2: {2, 1, -1}, 3: {5, 1, -1}} {
			for status := range 3 {
				s := idle(status)
				w := state.Of(s)
				if !send.Take(w, 0, queue, e[0], e[1]) {
					t.Fatalf("Take of %d is false", queue)
				}
				me, other := &s.Gs[0], &s.Gs[c.other]
				me.Hold, me.Place = c.x, e[0]
				if c.by == -1 {
					me.T, me.Point, me.With, me.Place = 20, 20, c.other, e[1]
					other.Point, other.With, other.Fire = 20, 0, -1
					out(&s, c.x)
				}
				holds(t, w, s)
			}
		}
	}
}

func TestTakeByCase(t *testing.T) {
	for by := -1; by < 8; by++ {
		s := base(api.OpSend, api.AtTake)
		s.Sudogs[2].Case = by
		w := state.Of(s)
		if !send.Take(w, 0, 2, 30, 40) || w.Gs[0].Hold != 2 {
			t.Fatal("Take")
		}
		queued, place := true, 30
		if by == -1 {
			queued, place = false, 40
		}
		if _, in := w.Queues.In(2); in != queued || w.Gs[0].Place != place {
			t.Errorf("of the case %d the place is %d, in its queue: %v", by, w.Gs[0].Place, in)
		}
	}
}

func TestTakeOfNone(t *testing.T) {
	// The queues 1, 4 and 5 are empty; of the channels that aren't made, too; others there aren't.
	queues := append(far(), 1, 4, 5)
	for queue := 6; queue < 300; queue++ {
		queues = append(queues, queue)
	}
	for _, queue := range queues {
		s := base(api.OpSend, api.AtTake)
		w := state.Of(s)
		if send.Take(w, 0, queue, api.AtWin, api.AtHand) {
			t.Errorf("Take of %d is true", queue)
		}
		holds(t, w, s)
	}
}

// A row of them is taken from its first one on.
func TestTakeOfARow(t *testing.T) {
	s := base(api.OpSend, api.AtTake)
	s.Sudogs[3].Case = -1
	s.Chans[1].Recv = []int{6, 2, 3}
	s.Sudogs[6].Case = -1
	w := state.Of(s)
	for _, x := range []int{6, 2, 3} {
		w.Step++
		if !send.Take(w, 0, 2, 1, 2) || w.Gs[0].Hold != x || w.Gs[0].T != w.Step {
			t.Errorf("Hold is %d; want %d", w.Gs[0].Hold, x)
		}
	}
	if send.Take(w, 0, 2, 1, 2) || w.Gs[0].Hold != 3 {
		t.Error("Take of an empty queue")
	}
}

func TestWin(t *testing.T) {
	for _, e := range ends() {
		for status := range 3 {
			for x, c := range map[int]struct{ other, by int }{2: {1, -1}, 3: {2, 1}, 4: {2, 0}, 5: {1, -1}, 6: {1, 0}} {
				s := idle(status)
				s.Gs[0].Hold = x
				w := state.Of(s)
				send.Win(w, 0, e[0], e[1])
				me, other := &s.Gs[0], &s.Gs[c.other]
				other.Picked, other.Point, other.With, other.Fire = true, 20, 0, c.by
				me.T, me.Point, me.With, me.Place = 20, 20, c.other, e[1]
				holds(t, w, s)
				// Whoever comes second passes it over.
				w.Step = 21
				send.Win(w, 0, e[0], e[1])
				s.Step = 21
				me.Hold, me.Place = -1, e[0]
				out(&s, x)
				holds(t, w, s)
			}
		}
	}
}

// That the one who wins is Picked itself is no matter.
func TestWinOfOneThatIsPicked(t *testing.T) {
	s := base(api.OpSend, api.AtWin)
	s.Gs[0].Hold, s.Gs[0].Picked, s.Gs[1].Picked = 3, true, true
	w := state.Of(s)
	send.Win(w, 0, api.AtTake, api.AtHand)
	if w.Gs[0].Place != api.AtHand || !w.Gs[2].Picked || w.Gs[0].Hold != 3 {
		t.Errorf("%+v", w.Gs[0])
	}
}

// A sudog may be of any goroutine, the one that serves it among them.
func TestTakeAndWinOfOnesOwn(t *testing.T) {
	s := base(api.OpSend, api.AtTake)
	s.Sudogs[2].G, s.Sudogs[3].G = 0, 0
	w := state.Of(s)
	send.Take(w, 0, 2, api.AtWin, api.AtHand)
	toldTake(&s, 0, 2, api.AtWin, api.AtHand)
	holds(t, w, s)
	if g := w.Gs[0]; g.Hold != 2 || g.With != 0 || g.Fire != -1 || g.Point != 20 {
		t.Errorf("%+v", g)
	}
	for range 2 {
		w.Gs[0].Hold, s.Gs[0].Hold = 3, 3
		send.Win(w, 0, api.AtTake, api.AtHand)
		toldWin(&s, 0, api.AtTake, api.AtHand)
		holds(t, w, s)
	}
}

func TestMine(t *testing.T) {
	for _, one := range []api.Sudog{
		{Live: true, G: 1, Ch: 3, Case: 4, Send: true, V: math.MinInt64, Done: true}, {Live: true, G: 2, Ch: 1, Case: -1, V: 7}, {Live: true}, {},
		{G: -1, Ch: 99, Case: math.MaxInt, V: math.MaxInt64},
	} {
		for status := range 3 {
			s := idle(status)
			w := state.Of(s)
			// One from its cache, one from the middle, one that was never given out; then none is left.
			for _, x := range []int{0, 1, 7, -1} {
				send.Mine(w, 0, one)
				me := &s.Gs[0]
				switch x {
				case -1:
					me.Res.Code, me.Place = api.ResNone, api.AtUnlock
				case 0:
					s.Cache[0] = nil
				case 1:
					s.Middle = nil
				case 7:
					s.Fresh = 8
				}
				if x != -1 {
					s.Sudogs[x] = one
					me.Mine, me.Place = x, api.AtQueue
				}
				holds(t, w, s)
				w.Gs[0].Place, me.Place = 44, 44
			}
		}
	}
}

// What another one keeps isn't for the goroutine: it is its own number that takes.
func TestMineOfEachGoroutine(t *testing.T) {
	for g := range 3 {
		s := base(api.OpSend, api.AtSudog)
		s.Config.Sudogs, s.Sudogs = 7, s.Sudogs[:7]
		s.Cache, s.Middle = make([][]int, 3), nil
		s.Cache[g] = []int{1, 0}
		w := state.Of(s)
		for h := range 3 {
			send.Mine(w, h, api.Sudog{Live: true, G: g, Ch: 1})
			if h == g && (w.Gs[h].Mine != 0 || w.Gs[h].Place != api.AtQueue || w.Gs[h].Res.Code == api.ResNone) {
				t.Errorf("Mine of %d: %+v", h, w.Gs[h])
			}
			if h != g && (w.Gs[h].Mine != s.Gs[h].Mine || w.Gs[h].Place != api.AtUnlock || w.Gs[h].Res.Code != api.ResNone) {
				t.Errorf("Mine of %d: %+v", h, w.Gs[h])
			}
		}
	}
}

// Take, Win and Mine of any goroutine, from many States on, are as the chapter's words say.
func TestCallsOfManyStates(t *testing.T) {
	d := &draws{2}
	for range 4000 {
		s, live := d.state()
		g, e := d.n(len(s.Gs)), ends()[d.n(len(ends()))]
		w := state.Of(s)
		switch k := d.n(4); {
		case k == 0:
			one := api.Sudog{Live: true, G: d.n(len(s.Gs)), Ch: 1, Case: d.n(3) - 1, Send: d.is(), V: int64(d.any())}
			send.Mine(w, g, one)
			toldMine(&s, g, one)
		case k == 1 && len(live) > 0:
			x := live[d.n(len(live))]
			w.Gs[g].Hold, s.Gs[g].Hold = x, x
			send.Win(w, g, e[0], e[1])
			toldWin(&s, g, e[0], e[1])
		default:
			queue := d.n(20) - 2
			if ok := send.Take(w, g, queue, e[0], e[1]); ok != toldTake(&s, g, queue, e[0], e[1]) {
				t.Fatalf("Take of %d is %v", queue, ok)
			}
		}
		holds(t, w, s)
	}
}

// small answers a State of goroutines that send 1, 2, .. each to a channel of its own number, or all to one, at AtLock.
func small(kinds []int, to []int, chans ...api.Chan) api.State {
	s := api.State{Config: api.Config{Sudogs: 4, Cache: 1}, Step: 1, Chans: chans, Sudogs: make([]api.Sudog, 4)}
	for i, kind := range kinds {
		place := api.AtLock
		if kind == api.OpTrySend {
			place = api.AtLook
		}
		s.Gs = append(s.Gs, begun(api.Op{Kind: kind, Ch: to[i], V: int64(i + 1)}, place))
	}
	for i := range s.Chans {
		s.Chans[i].Lock = -1
	}
	s.Cache = make([][]int, len(s.Gs))
	return s
}

// begun is a goroutine whose operation has begun.
func begun(o api.Op, place int) api.G {
	return api.G{Ops: []api.Op{o}, Place: place, Call: 1, Param: -1, Mine: -1, Hold: -1, With: -1, Fire: -1, Res: code(0)}
}

// waits adds a goroutine that is parked, and waits to receive by the next sudogs: one of each of these channels.
func waits(s *api.State, kind int, chans ...int) {
	g := begun(api.Op{Kind: kind}, api.AtWake)
	g.Status, g.Arrive = api.Parks, 1
	for i, ch := range chans {
		by := -1
		if kind == api.OpSelect {
			by = i
			g.Ops[0].Cases = append(g.Ops[0].Cases, api.Case{Ch: ch})
		} else {
			g.Ops[0].Ch = ch
		}
		s.Sudogs[s.Fresh] = api.Sudog{Live: true, G: len(s.Gs), Ch: ch, Case: by}
		s.Chans[ch-1].Recv = append(s.Chans[ch-1].Recv, s.Fresh)
		s.Fresh++
	}
	s.Gs, s.Cache = append(s.Gs, g), append(s.Cache, nil)
}

// all steps the first n goroutines of a State in each order there is, until none of them goes on, and calls f with what came of it.
func all(t *testing.T, s api.State, n int, f func(api.State)) {
	t.Helper()
	seen := map[string]bool{}
	var from func(s api.State)
	from = func(s api.State) {
		if s.Step > 100 {
			t.Fatalf("there is no end: %+v", s)
		}
		goes := false
		for g := range n {
			w := state.Of(s)
			w.Step++
			before := w.Gs[g].Place
			if w.Bench.Status(g) != api.Runs || !send.Step(w, g) {
				continue
			}
			// A lock that another one has: that step leads nowhere.
			if before == w.Gs[g].Place && before == api.AtLock {
				continue
			}
			goes = true
			next := w.State()
			next.Step = s.Step + 1
			if key := fmt.Sprintf("%+v", next); !seen[key] {
				seen[key] = true
				from(next)
			}
		}
		if !goes {
			f(s)
		}
	}
	from(s)
	if len(seen) < 5 {
		t.Errorf("only %d States were seen", len(seen))
	}
}

func TestTheChapter(t *testing.T) {
	s := small([]int{api.OpSend}, []int{1}, api.Chan{Cap: 1})
	w := state.Of(s)
	for _, place := range []int{api.AtCheck, api.AtTake, api.AtRing, api.AtUnlock, api.AtAnswer} {
		if !send.Step(w, 0) || w.Gs[0].Place != place {
			t.Errorf("the place is %d; want %d", w.Gs[0].Place, place)
		}
	}
	if send.Step(w, 0) || w.Gs[0].Res != done() || w.State().Chans[0].Buf[0] != 1 {
		t.Errorf("%+v", w.Gs[0])
	}
}

// Two would serve one select, by two channels: in each order it is served by just one of them, and the other one passes it over.
func TestTwoWouldServeOneSelect(t *testing.T) {
	for _, kind := range []int{api.OpSend, api.OpTrySend} {
		winners := map[int]bool{}
		s := small([]int{kind, kind}, []int{1, 2}, api.Chan{}, api.Chan{})
		waits(&s, api.OpSelect, 1, 2)
		all(t, s, 2, func(s api.State) {
			g := s.Gs[2]
			x := g.Param
			if x < 0 {
				t.Fatalf("the select isn't served: %+v", s)
			}
			won := g.With
			winners[won] = true
			lost := 1 - won
			if g.Status != api.Runs || g.Token || !g.Picked || g.Fire != won || x != won || !s.Sudogs[x].Done || s.Sudogs[x].V != int64(won+1) || s.Sudogs[1-x].Done || s.Sudogs[1-x].V != 0 {
				t.Fatalf("%+v", s)
			}
			me := s.Gs[won]
			if me.Place != api.AtAnswer || me.Res != done() || me.With != 2 || me.Point != g.Point || me.Point != me.T || len(s.Chans[won].Recv) != 0 {
				t.Fatalf("%+v", s)
			}
			other := s.Gs[lost]
			if other.With != -1 || s.Chans[lost].Lock != -1 || s.Chans[won].Lock != -1 {
				t.Fatalf("%+v", s)
			}
			if kind == api.OpTrySend && other.Res != code(api.ResNo) || kind == api.OpSend && (other.Status != api.Parks || len(s.Chans[lost].Recv) != 0 || len(s.Chans[lost].Send) != 1) {
				t.Fatalf("%+v", s)
			}
		})
		if len(winners) != 2 {
			t.Errorf("only %v won", winners)
		}
	}
}

// Of three that send to one channel, one finds who receives, one the ring's place, one waits; a try doesn't.
func TestThreeAtOneChannel(t *testing.T) {
	for _, third := range []int{api.OpSend, api.OpTrySend} {
		s := small([]int{api.OpSend, api.OpSend, third}, []int{1, 1, 1}, api.Chan{Cap: 1})
		waits(&s, api.OpRecv, 1)
		orders := map[string]bool{}
		all(t, s, 3, func(s api.State) {
			handed, put, waiting := s.Gs[3].With, int(s.Chans[0].Buf[0])-1, s.Chans[0].Send
			orders[fmt.Sprint(handed, put)] = true
			if s.Gs[3].Status != api.Runs || s.Sudogs[0].V != int64(handed+1) || s.Gs[handed].Res != done() || s.Gs[put].Res != done() || s.Gs[put].With != -1 || s.Chans[0].Lock != -1 {
				t.Fatalf("%+v", s)
			}
			last := s.Gs[3-handed-put]
			if len(waiting) == 1 {
				if x := s.Sudogs[waiting[0]]; x.G != 3-handed-put || x.V != int64(x.G+1) || !x.Send || last.Status != api.Parks || last.Mine != waiting[0] || last.Arrive == 0 {
					t.Fatalf("%+v", s)
				}
			} else if last.Place != api.AtAnswer || last.Res.Code != api.ResNo || last.Point == 0 || third != api.OpTrySend {
				t.Fatalf("%+v", s)
			}
		})
		// Each of them may be first, second and third.
		if len(orders) != 6 {
			t.Errorf("only %v were seen", orders)
		}
	}
}

// One that sends is made ready ahead of parking: it doesn't park, and goes on to the end.
func TestReadyAheadOfParking(t *testing.T) {
	w := state.Of(small([]int{api.OpSend}, []int{1}, api.Chan{}))
	for range 7 {
		send.Step(w, 0)
	}
	if w.Gs[0].Place != api.AtPark {
		t.Fatalf("the place is %d", w.Gs[0].Place)
	}
	x, ok := w.Queues.Pop(1)
	if !ok || w.Gs[0].Mine != x || w.Locks.Owner(0) != -1 {
		t.Fatalf("%+v", w.Gs[0])
	}
	w.Sudogs[x].Done, w.Gs[0].Param = true, x
	w.Bench.Ready(0)
	for _, place := range []int{api.AtWake, api.AtFree, api.AtAnswer} {
		if !send.Step(w, 0) || w.Gs[0].Place != place || w.Bench.Status(0) != api.Runs {
			t.Fatalf("%+v", w.Gs[0])
		}
	}
	if w.Gs[0].Res != done() || w.Pool.Count() != 0 || w.Sudogs[x] != (api.Sudog{}) || send.Step(w, 0) {
		t.Fatalf("%+v", w.Gs[0])
	}
}

// Without a sudog left a send is told so, and nothing is done.
func TestNoSudogLeft(t *testing.T) {
	s := small([]int{api.OpSend, api.OpSend}, []int{1, 1}, api.Chan{})
	s.Config.Sudogs, s.Sudogs = 1, s.Sudogs[:1]
	all(t, s, 2, func(s api.State) {
		waiting := s.Gs[s.Sudogs[0].G]
		other := s.Gs[1-s.Sudogs[0].G]
		if waiting.Status != api.Parks || other.Place != api.AtAnswer || other.Res != code(api.ResNone) || other.Point != 0 || other.Arrive != 0 || s.Chans[0].Lock != -1 || len(s.Chans[0].Send) != 1 {
			t.Fatalf("%+v", s)
		}
	})
}

// A try that finds no room, and then a closed channel, hadn't taken effect at the first look.
func TestTryAtAClosedChannel(t *testing.T) {
	w := state.Of(small([]int{api.OpTrySend}, []int{1}, api.Chan{}))
	send.Step(w, 0)
	if w.Gs[0].Point != 1 {
		t.Fatalf("%+v", w.Gs[0])
	}
	w.Closed[0] = true
	for i, want := range []api.G{
		{Place: api.AtLock}, {Place: api.AtCheck}, {Place: api.AtUnlock, Point: 3, Res: code(api.ResSend)}, {Place: api.AtAnswer, Point: 3, Res: code(api.ResSend)},
	} {
		w.Step = i + 1
		if !send.Step(w, 0) || w.Gs[0].Place != want.Place || w.Gs[0].Point != want.Point || want.Res.Code != w.Gs[0].Res.Code {
			t.Errorf("%d: %+v", i, w.Gs[0])
		}
	}
}
