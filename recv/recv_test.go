package recv_test

import (
	"math"
	"slices"
	"testing"

	"handoff/api"
	"handoff/recv"
	"handoff/state"
)

// got is the result of a value that was received.
func got(v int64) api.Result { return api.Result{Code: api.ResDone, Case: -1, V: v, Ok: true} }

// code is a result of which nothing more is said.
func code(c int) api.Result { return api.Result{Code: c, Case: -1} }

// base answers a State in which goroutine 0 receives from the channel 2, and each thing there may be has something in it.
func base(kind, place int) api.State {
	me := api.G{
		Ops: []api.Op{{Kind: api.OpLen, Ch: 1}, {Kind: kind, Ch: 2}}, At: 1, Place: place, Token: true, Call: 3,
		Param: -1, Mine: -1, Hold: -1, T: 11, Arrive: 12, Point: 13, With: 7, Fire: 4,
		Res: api.Result{Code: 7, Case: 5, V: 6, Ok: true, N: 8}, Locks: []int{1, 2}, Wakes: []int{2}, K: 1,
	}
	sends := api.G{Ops: []api.Op{{Kind: api.OpSend, Ch: 2, V: 50}}, Place: api.AtWake, Status: api.Parks, Call: 1, Param: -1, Mine: 2, Hold: -1, Arrive: 4, With: -1, Fire: -1, Res: code(0)}
	choose := api.G{
		Ops:   []api.Op{{Kind: api.OpSelect, Cases: []api.Case{{Send: true, Ch: 1, V: 52}, {Send: true, Ch: 2, V: 51}}}},
		Place: api.AtWake, Status: api.Parks, Call: 2, Param: -1, Mine: -1, Hold: -1, Arrive: 6, With: -1, Fire: -1, Res: code(0),
		Order: []int{1, 0}, Locks: []int{1, 2}, Sgs: []int{4, 3}, K: 1,
	}
	return api.State{
		Config: api.Config{Sudogs: 8, Cache: 2}, Step: 20, Gs: []api.G{me, sends, choose},
		Chans: []api.Chan{
			{Cap: 3, Buf: []int64{-4, 1 << 40, 7}, Lock: 2, Send: []int{4}},
			{Lock: 0, Recv: []int{5}, Send: []int{2, 3}},
			{Cap: 1, Closed: true, Lock: -1},
		},
		Sudogs: []api.Sudog{
			{}, {},
			{Live: true, G: 1, Ch: 2, Case: -1, Send: true, V: 50},
			{Live: true, G: 2, Ch: 2, Case: 1, Send: true, V: 51},
			{Live: true, G: 2, Ch: 1, Case: 0, Send: true, V: 52},
			{Live: true, G: 1, Ch: 2, Case: -1, V: 53},
			{Live: true, G: 1, Ch: 2, Case: 0, Send: true, V: 54},
			{},
		},
		Cache: [][]int{{0}, nil, nil}, Middle: []int{1}, Fresh: 7, Draws: []uint16{4, 6}, Drawn: 1,
		Done: []api.Mark{{G: 1, Call: 1, Point: 2, With: -1, Fire: -1, Re: 3, Res: got(3)}},
	}
}

// with answers base's State with another channel 2.
func with(kind, place int, c api.Chan) api.State {
	s := base(kind, place)
	c.Buf = slices.Clone(c.Buf)
	s.Chans[1] = c
	return s
}

// channels calls f with all that a channel may be, its lock goroutine 0's; queues are empty, or some wait there.
func channels(f func(c api.Chan)) {
	for room := range 5 {
		for n := range room + 1 {
			for k := range 8 {
				c := api.Chan{Cap: room, Buf: []int64{-5, 6, 7, 1 << 50}[:n:n], Closed: k&1 > 0}
				if k&2 > 0 {
					c.Recv = []int{5}
				}
				if k&4 > 0 {
					c.Send = []int{2, 3}
				}
				f(c)
			}
		}
	}
}

// each calls f by both kinds of receives.
func each(f func(kind int)) {
	f(api.OpRecv)
	f(api.OpTryRecv)
}

// steps ends a test unless Step of goroutine 0 is true, and changes a State as told.
func steps(t *testing.T, s api.State, change func(s *api.State, me *api.G)) {
	t.Helper()
	w := state.Of(s)
	if !recv.Step(w, 0) {
		t.Fatalf("Step at %d is false", s.Gs[0].Place)
	}
	change(&s, &s.Gs[0])
	holds(t, w, s)
}

// something tells whether a first look finds something.
func something(c api.Chan) bool {
	return c.Cap > 0 && len(c.Buf) > 0 || c.Cap == 0 && len(c.Send) > 0
}

func TestAtLook(t *testing.T) {
	each(func(kind int) {
		channels(func(c api.Chan) {
			// Whoever has the lock is all one, and whether the channel is closed is asked later.
			for lock := -1; lock < 3; lock++ {
				c.Lock = lock
				steps(t, with(kind, api.AtLook, c), func(_ *api.State, me *api.G) {
					me.Place = api.AtLock
					if !something(c) {
						me.Place, me.Point = api.AtAgain, 20
					}
				})
			}
		})
	})
}

func TestAtAgain(t *testing.T) {
	each(func(kind int) {
		channels(func(c api.Chan) {
			steps(t, with(kind, api.AtAgain, c), func(_ *api.State, me *api.G) {
				if c.Closed {
					// The Point stays: the third look sets it.
					me.Place = api.AtThird
				} else {
					// The result's other fields stay.
					me.Res.Code, me.Place = api.ResNo, api.AtAnswer
				}
			})
		})
	})
}

func TestAtThird(t *testing.T) {
	each(func(kind int) {
		channels(func(c api.Chan) {
			steps(t, with(kind, api.AtThird, c), func(_ *api.State, me *api.G) {
				if something(c) {
					me.Point, me.Place = 0, api.AtLock
				} else {
					me.Res, me.Point, me.Place = code(api.ResDone), 20, api.AtAnswer
				}
			})
		})
	})
}

func TestAtCheck(t *testing.T) {
	each(func(kind int) {
		channels(func(c api.Chan) {
			steps(t, with(kind, api.AtCheck, c), func(_ *api.State, me *api.G) {
				switch {
				case !c.Closed:
					me.Place = api.AtTake
				case len(c.Buf) > 0:
					me.Place = api.AtRing
				default:
					me.Res, me.Point, me.Place = code(api.ResDone), 20, api.AtUnlock
				}
			})
		})
	})
}

func TestAtTake(t *testing.T) {
	each(func(kind int) {
		channels(func(c api.Chan) {
			c.Send = nil
			// Where nobody sends it's the ring's turn, whoever receives, or sends to another one.
			steps(t, with(kind, api.AtTake, c), func(_ *api.State, me *api.G) { me.Place = api.AtRing })
			// One that waits by an operation of its own is taken at once, whatever is in the ring.
			c.Send = []int{2, 3}
			steps(t, with(kind, api.AtTake, c), func(s *api.State, me *api.G) {
				me.Hold, me.T, me.Point, me.With, me.Place = 2, 20, 20, 1, api.AtHand
				s.Gs[1].Point, s.Gs[1].With, s.Gs[1].Fire = 20, 0, -1
				s.Chans[1].Send = []int{3}
			})
			// One that selects stays where it is.
			c.Send = []int{3, 2}
			steps(t, with(kind, api.AtTake, c), func(_ *api.State, me *api.G) { me.Hold, me.Place = 3, api.AtWin })
		})
	})
}

func TestAtWin(t *testing.T) {
	each(func(kind int) {
		s := base(kind, api.AtWin)
		s.Gs[0].Hold = 3
		steps(t, s, func(s *api.State, me *api.G) {
			me.T, me.Point, me.With, me.Place = 20, 20, 2, api.AtHand
			other := &s.Gs[2]
			other.Picked, other.Point, other.With, other.Fire = true, 20, 0, 1
		})
		s = base(kind, api.AtWin)
		s.Gs[0].Hold, s.Gs[2].Picked = 3, true
		steps(t, s, func(s *api.State, me *api.G) {
			me.Hold, me.Place = -1, api.AtTake
			s.Chans[1].Send = []int{2}
		})
	})
}

// passed answers what one gets of a sudog's value and a channel, and what is in its ring then.
func passed(c api.Chan, v int64) (int64, []int64) {
	switch {
	case c.Cap == 0:
		return v, nil
	case len(c.Buf) < c.Cap:
		return 0, c.Buf
	}
	return c.Buf[0], append(slices.Clone(c.Buf[1:]), v)
}

func TestAtHand(t *testing.T) {
	each(func(kind int) {
		channels(func(c api.Chan) {
			// One that is in its queue still, wherever there, and one that is in none; whether the other one is picked isn't asked again.
			for x, other := range map[int]int{2: 1, 3: 2, 6: 1} {
				s := with(kind, api.AtHand, c)
				s.Gs[0].Hold, s.Gs[2].Picked = x, kind == api.OpRecv
				steps(t, s, func(s *api.State, me *api.G) {
					v, buf := passed(c, s.Sudogs[x].V)
					me.Res, me.Hold, me.Place, me.Wakes = got(v), -1, api.AtUnlock, []int{2, other}
					s.Gs[other].Param = x
					s.Sudogs[x].Done = true
					s.Chans[1].Buf, s.Chans[1].Send = buf, without(c.Send, x)
				})
			}
		})
	})
}

func TestAtRing(t *testing.T) {
	each(func(kind int) {
		channels(func(c api.Chan) {
			steps(t, with(kind, api.AtRing, c), func(s *api.State, me *api.G) {
				switch {
				case len(c.Buf) > 0:
					me.Res, me.Point, me.Place = got(c.Buf[0]), 20, api.AtUnlock
					s.Chans[1].Buf = c.Buf[1:]
				case kind == api.OpTryRecv:
					me.Res, me.Point, me.Place = code(api.ResNo), 20, api.AtUnlock
				default:
					me.Place = api.AtSudog
				}
			})
		})
	})
}

func TestAtSudog(t *testing.T) {
	mine := api.Sudog{Live: true, G: 0, Ch: 2, Case: -1}
	each(func(kind int) {
		// Its own cache comes first, then the middle, and then what was never given out.
		steps(t, base(kind, api.AtSudog), func(s *api.State, me *api.G) {
			me.Mine, me.Place = 0, api.AtQueue
			s.Sudogs[0], s.Cache[0] = mine, nil
		})
		s := base(kind, api.AtSudog)
		s.Cache = [][]int{nil, {0}, nil}
		steps(t, s, func(s *api.State, me *api.G) {
			me.Mine, me.Place = 1, api.AtQueue
			s.Sudogs[1], s.Middle = mine, nil
		})
		s = base(kind, api.AtSudog)
		s.Cache, s.Middle = [][]int{nil, {0}, {1}}, nil
		steps(t, s, func(s *api.State, me *api.G) {
			me.Mine, me.Place = 7, api.AtQueue
			s.Sudogs[7], s.Fresh = mine, 8
		})
		// None is left: others keep two. The result's other fields stay.
		s = base(kind, api.AtSudog)
		s.Config.Sudogs, s.Sudogs = 7, s.Sudogs[:7]
		s.Cache, s.Middle = [][]int{nil, {0}, {1}}, nil
		steps(t, s, func(_ *api.State, me *api.G) { me.Res.Code, me.Place = api.ResNone, api.AtUnlock })
	})
}

func TestAtQueue(t *testing.T) {
	each(func(kind int) {
		for _, row := range [][]int{nil, {5}, {5, 3, 2}} {
			s := base(kind, api.AtQueue)
			s.Gs[0].Mine = 6
			s.Sudogs[6] = api.Sudog{Live: true, Ch: 2, Case: -1}
			s.Chans[1].Recv, s.Chans[1].Send = row, nil
			steps(t, s, func(s *api.State, me *api.G) {
				me.Arrive, me.Place = 20, api.AtRelease
				s.Chans[1].Recv = append(slices.Clone(row), 6)
			})
		}
	})
}

func TestAtWake(t *testing.T) {
	each(func(kind int) {
		for _, v := range []int64{0, 1, -1, 255, math.MinInt64, math.MaxInt64} {
			for _, served := range []bool{true, false} {
				// The channel counts no more: neither whether it is closed, nor whether there is one.
				for _, ch := range []int{2, 3, 0, 8} {
					s := base(kind, api.AtWake)
					s.Gs[0].Ops[1].Ch = ch
					// Param counts, not Mine.
					s.Gs[0].Param, s.Gs[0].Mine = 6, 2
					s.Sudogs[6].V, s.Sudogs[6].Done, s.Sudogs[2].Done = v, served, !served
					steps(t, s, func(_ *api.State, me *api.G) {
						// What a sudog that was closed upon has in it isn't received.
						me.Res, me.Param, me.Place = code(api.ResDone), -1, api.AtFree
						if served {
							me.Res = got(v)
						}
					})
				}
			}
		}
	})
}

// common are the places of layer 12.
func common() []int {
	return []int{api.AtLock, api.AtRelease, api.AtPark, api.AtFree, api.AtUnlock, api.AtReady}
}

// own are the places of the chapter's table.
func own() []int {
	return []int{api.AtLook, api.AtAgain, api.AtThird, api.AtCheck, api.AtTake, api.AtWin, api.AtHand, api.AtRing, api.AtSudog, api.AtQueue, api.AtWake}
}

// held answers base's State, in which goroutine 0 has in hand all that places ask for.
func held(kind, place int) api.State {
	s := base(kind, place)
	s.Gs[0].Param, s.Gs[0].Hold, s.Gs[0].Mine = 2, 3, 6
	return s
}

func TestCommonPlaces(t *testing.T) {
	each(func(kind int) {
		for _, place := range common() {
			for owner := -1; owner < 2; owner++ {
				s := held(kind, place)
				if place != api.AtRelease && place != api.AtUnlock {
					s.Chans[1].Lock = owner
				}
				s.Gs[0].Token = owner == 0
				w, want := state.Of(s), state.Of(s)
				if !recv.Step(w, 0) || !want.Common(0) {
					t.Fatalf("Step at %d is false", place)
				}
				holds(t, w, want.State())
			}
		}
	})
}

// stays ends a test unless Step of goroutine 0 is false, and nothing.
func stays(t *testing.T, s api.State) {
	t.Helper()
	w := state.Of(s)
	if recv.Step(w, 0) {
		t.Fatalf("Step at %d of %+v is true", s.Gs[0].Place, w.Op(0))
	}
	holds(t, w, s)
}

func TestOtherPlaces(t *testing.T) {
	// Cut to 8, 16 or 32 bits, some of the great ones would be places.
	places := []int{math.MinInt, math.MinInt + 4, math.MinInt32, 1 - 1<<32, 1 - 1<<16, 1<<16 + 12, math.MaxInt32, 1<<32 + 3, 1<<32 + 8, 1 << 62, math.MaxInt}
	for place := -300; place <= 300; place++ {
		places = append(places, place)
	}
	each(func(kind int) {
		for _, place := range places {
			if slices.Contains(common(), place) || slices.Contains(own(), place) {
				continue
			}
			stays(t, held(kind, place))
			// Nor is a channel asked that there isn't.
			for _, ch := range []int{0, 8} {
				s := held(kind, place)
				s.Gs[0].Ops[1].Ch = ch
				stays(t, s)
			}
		}
	})
}

func TestOtherOps(t *testing.T) {
	ops := []api.Op{
		{Kind: api.OpMake, N: 2}, {Kind: api.OpSend, Ch: 2, V: 9}, {Kind: api.OpTrySend, Ch: 2, V: 9}, {Kind: api.OpClose, Ch: 2}, {Kind: api.OpLen, Ch: 2}, {Kind: api.OpCap, Ch: 2},
		{Kind: api.OpSelect, Cases: []api.Case{{Ch: 2}, {Send: true, Ch: 1, V: 9}}},
	}
	for place := api.AtBegin; place <= api.AtFrees; place++ {
		for _, o := range ops {
			s := held(api.OpRecv, place)
			s.Gs[0].Ops[1] = o
			stays(t, s)
		}
		// It is the op at At that counts: behind the last one there is none.
		s := held(api.OpRecv, place)
		s.Gs[0].At = 2
		stays(t, s)
		s.Gs[0].At, s.Gs[0].Ops = 0, []api.Op{{Kind: api.OpSend, Ch: 2}, {Kind: api.OpRecv, Ch: 2}}
		stays(t, s)
	}
}

// Each goroutine, wherever it is in the list, takes what it keeps itself.
func TestStepOfEachGoroutine(t *testing.T) {
	for g := range 8 {
		s := base(api.OpRecv, api.AtCheck)
		me := s.Gs[0]
		s.Gs, s.Cache = slices.Repeat(s.Gs[1:2], 8), make([][]int, 8)
		s.Cache[g] = []int{0}
		s.Gs[g] = me
		s.Gs[g].Place = api.AtSudog
		w := state.Of(s)
		if !recv.Step(w, g) {
			t.Fatalf("Step of %d is false", g)
		}
		s.Gs[g].Mine, s.Gs[g].Place, s.Cache[g] = 0, api.AtQueue, nil
		s.Sudogs[0] = api.Sudog{Live: true, G: g, Ch: 2, Case: -1}
		holds(t, w, s)
	}
}

// Each channel has queues, a ring and a lock of its own.
func TestStepOfEachChannel(t *testing.T) {
	for ch := 1; ch <= 8; ch++ {
		for _, place := range []int{api.AtLook, api.AtAgain, api.AtThird, api.AtLock, api.AtCheck, api.AtTake, api.AtRing, api.AtQueue} {
			for k := range 8 {
				s := base(api.OpRecv, place)
				s.Gs[0].Mine, s.Gs[0].Ops[1].Ch = 6, ch
				for x := 2; x <= 6; x++ {
					s.Sudogs[x].Ch = ch
				}
				s.Chans = make([]api.Chan, 8)
				for i := range s.Chans {
					s.Chans[i] = api.Chan{Cap: 1, Closed: k&1 == 0, Lock: -1}
				}
				s.Chans[ch-1] = api.Chan{Cap: k >> 1 & 1, Closed: k&1 > 0, Lock: -1}
				if k&4 > 0 {
					s.Chans[ch-1].Send, s.Chans[ch-1].Recv = []int{2, 3}, []int{5}
					s.Chans[ch-1].Buf = []int64{9}[:k>>1&1]
				}
				w := state.Of(s)
				if !recv.Step(w, 0) || !told(&s, 0) {
					t.Fatalf("Step at %d is false", place)
				}
				holds(t, w, s)
			}
		}
	}
}

// Steps at each place, from many States on, are as the chapter's words say.
func TestStepOfManyStates(t *testing.T) {
	d := &draws{1}
	for place := api.AtBegin; place <= api.AtFrees; place++ {
		for range 400 {
			s, g := d.ready(place)
			w := state.Of(s)
			if ok := recv.Step(w, g); ok != told(&s, g) {
				t.Fatalf("Step at %d is %v", place, ok)
			}
			holds(t, w, s)
		}
	}
}

func TestHand(t *testing.T) {
	// Places, who has the lock and who holds the sudog are no matter, nor where the sudog is, and whether it sends.
	for _, place := range []int{api.AtPollHand, 44} {
		for _, x := range []int{2, 3, 4, 5, 6} {
			for _, v := range []int64{0, 9, -1, math.MinInt64, math.MaxInt64} {
				channels(func(c api.Chan) {
					c.Lock = x%4 - 1
					s := with(api.OpRecv, place, c)
					s.Sudogs[x].V = v
					w := state.Of(s)
					want, buf := passed(c, v)
					if is := recv.Hand(w, 2, x); is != want {
						t.Errorf("Hand of %+v and %d is %d; want %d", c, v, is, want)
					}
					s.Chans[1].Buf = buf
					holds(t, w, s)
				})
			}
		}
	}
}

// It is the channel that is named which counts, not that of the sudog.
func TestHandOfEachChannel(t *testing.T) {
	for ch := 1; ch <= 8; ch++ {
		s := base(api.OpRecv, api.AtHand)
		s.Chans = make([]api.Chan, 8)
		for i := range s.Chans {
			s.Chans[i] = api.Chan{Cap: 2, Buf: []int64{int64(i + 100), int64(i + 200)}, Lock: -1}
		}
		w := state.Of(s)
		if v := recv.Hand(w, ch, 4); v != int64(ch+99) {
			t.Errorf("Hand of %d is %d", ch, v)
		}
		s.Chans[ch-1].Buf = []int64{int64(ch + 199), 52}
		holds(t, w, s)
	}
}

// A row of those who send goes through the ring, in its order.
func TestHandOfARow(t *testing.T) {
	w := state.Of(with(api.OpRecv, api.AtHand, api.Chan{Cap: 3, Buf: []int64{1, 2, 3}, Lock: -1}))
	for i, x := range []int{2, 6, 3, 2, 4} {
		if v := recv.Hand(w, 2, x); v != []int64{1, 2, 3, 50, 54}[i] {
			t.Errorf("%d: Hand is %d", i, v)
		}
	}
	if l := w.Rings[1].All(); !slices.Equal(l, []int64{51, 50, 52}) {
		t.Errorf("in the ring are %v", l)
	}
}

// Hand of any channel and any sudog, from many States on, is as the chapter's words say.
func TestHandOfManyStates(t *testing.T) {
	d := &draws{2}
	for range 4000 {
		s, live := d.state()
		if len(live) == 0 {
			continue
		}
		ch, x := 1+d.n(len(s.Chans)), live[d.n(len(live))]
		w := state.Of(s)
		is := recv.Hand(w, ch, x)
		if want := toldHand(&s, ch, x); is != want {
			t.Fatalf("Hand of %d and %d is %d; want %d", ch, x, is, want)
		}
		holds(t, w, s)
	}
}
