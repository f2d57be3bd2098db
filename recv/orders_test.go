package recv_test

import (
	"fmt"
	"slices"
	"testing"

	"handoff/api"
	"handoff/recv"
	"handoff/send"
	"handoff/state"
)

// begun is a goroutine whose operation has begun; a try looks first.
func begun(o api.Op) api.G {
	place := api.AtLock
	if o.Kind == api.OpTrySend || o.Kind == api.OpTryRecv {
		place = api.AtLook
	}
	return api.G{Ops: []api.Op{o}, Place: place, Call: 1, Param: -1, Mine: -1, Hold: -1, With: -1, Fire: -1, Res: code(0)}
}

// small answers a State of goroutines that begin these ops.
func small(ops []api.Op, chans ...api.Chan) api.State {
	s := api.State{Config: api.Config{Sudogs: 4, Cache: 1}, Step: 1, Chans: chans, Sudogs: make([]api.Sudog, 4), Cache: make([][]int, len(ops))}
	for _, o := range ops {
		s.Gs = append(s.Gs, begun(o))
	}
	for i := range s.Chans {
		s.Chans[i].Lock = -1
	}
	return s
}

// waits adds a goroutine that is parked, and waits to send 61, 62, .. by the next sudogs: one to each of these channels.
func waits(s *api.State, kind int, chans ...int) {
	g := begun(api.Op{Kind: kind})
	g.Place, g.Status, g.Arrive = api.AtWake, api.Parks, 1
	for i, ch := range chans {
		by, v := -1, int64(61+i)
		if kind == api.OpSelect {
			by = i
			g.Ops[0].Cases = append(g.Ops[0].Cases, api.Case{Send: true, Ch: ch, V: v})
		} else {
			g.Ops[0].Ch, g.Ops[0].V = ch, v
		}
		s.Sudogs[s.Fresh] = api.Sudog{Live: true, G: len(s.Gs), Ch: ch, Case: by, Send: true, V: v}
		s.Chans[ch-1].Send = append(s.Chans[ch-1].Send, s.Fresh)
		s.Fresh++
	}
	s.Gs, s.Cache = append(s.Gs, g), append(s.Cache, nil)
}

// recvs answers ops of these kinds that receive from the channel 1.
func recvs(kinds ...int) []api.Op {
	var l []api.Op
	for _, kind := range kinds {
		l = append(l, api.Op{Kind: kind, Ch: 1})
	}
	return l
}

// timeless writes down a State without when things were: where goroutines may go from it doesn't hang on that.
func timeless(s api.State) string {
	s.Step, s.Gs = 0, slices.Clone(s.Gs)
	for g := range s.Gs {
		s.Gs[g].T, s.Gs[g].Arrive = 0, 0
		s.Gs[g].Point = min(s.Gs[g].Point, 1)
	}
	return fmt.Sprintf("%+v", s)
}

// all steps the first n goroutines of a State in each order there is, until none of them goes on, and calls f with what came of it.
func all(t *testing.T, s api.State, n int, f func(api.State)) {
	t.Helper()
	seen := map[string]bool{}
	var from func(s api.State)
	from = func(s api.State) {
		if s.Step > 200 {
			t.Fatalf("there is no end: %+v", s)
		}
		goes := false
		for g := range n {
			w := state.Of(s)
			w.Step++
			before := w.Gs[g].Place
			if w.Bench.Status(g) != api.Runs || !recv.Step(w, g) && !send.Step(w, g) {
				continue
			}
			// A lock that another one has: that step leads nowhere.
			if before == w.Gs[g].Place && before == api.AtLock {
				continue
			}
			goes = true
			next := w.State()
			if key := timeless(next); !seen[key] {
				seen[key] = true
				from(next)
			}
		}
		if !goes {
			f(s)
		}
	}
	from(s)
	if len(seen) < 5 {
		t.Errorf("only %d States were seen", len(seen))
	}
}

// goes ends a test unless Step of goroutine 0 is true, and leads to each of these places.
func goes(t *testing.T, w *state.World, places ...int) {
	t.Helper()
	for _, place := range places {
		if !recv.Step(w, 0) || w.Gs[0].Place != place {
			t.Fatalf("the place is %d; want %d: %+v", w.Gs[0].Place, place, w.Gs[0])
		}
		w.Step++
	}
}

func TestTheChapter(t *testing.T) {
	w := state.Of(small(recvs(api.OpRecv), api.Chan{Closed: true}))
	goes(t, w, api.AtCheck, api.AtUnlock, api.AtAnswer)
	if recv.Step(w, 0) || w.Gs[0].Res != code(api.ResDone) || w.Gs[0].Point != 2 {
		t.Errorf("%+v", w.Gs[0])
	}
}

// What is in a closed channel's ring is received still, and then 0, not ok, again and again.
func TestClosedWithValues(t *testing.T) {
	each(func(kind int) {
		w := state.Of(small(recvs(kind), api.Chan{Cap: 3, Buf: []int64{4, 0, 5}, Closed: true}))
		for _, want := range []api.Result{got(4), got(0), got(5), code(api.ResDone), code(api.ResDone)} {
			w.Gs[0] = begun(w.Op(0))
			for recv.Step(w, 0) {
			}
			if w.Gs[0].Place != api.AtAnswer || w.Gs[0].Res != want || w.Locks.Owner(0) != -1 {
				t.Errorf("%+v; want %+v", w.Gs[0], want)
			}
		}
	})
}

// Two would serve one select, by two channels: in each order it is served by just one of them, and the other one passes it over.
func TestTwoWouldServeOneSelect(t *testing.T) {
	each(func(kind int) {
		winners := map[int]bool{}
		s := small([]api.Op{{Kind: kind, Ch: 1}, {Kind: kind, Ch: 2}}, api.Chan{}, api.Chan{})
		waits(&s, api.OpSelect, 1, 2)
		all(t, s, 2, func(s api.State) {
			g := s.Gs[2]
			x := g.Param
			if x < 0 {
				t.Fatalf("the select isn't served: %+v", s)
			}
			won, lost := g.With, 1-g.With
			winners[won] = true
			if g.Status != api.Runs || g.Token || !g.Picked || g.Fire != won || x != won || !s.Sudogs[x].Done || s.Sudogs[1-x].Done {
				t.Fatalf("%+v", s)
			}
			me := s.Gs[won]
			if me.Place != api.AtAnswer || me.Res != got(int64(61+won)) || me.With != 2 || me.Point != g.Point || me.Point != me.T || len(s.Chans[won].Send) != 0 {
				t.Fatalf("%+v", s)
			}
			other := s.Gs[lost]
			if other.With != -1 || s.Chans[lost].Lock != -1 || s.Chans[won].Lock != -1 {
				t.Fatalf("%+v", s)
			}
			if kind == api.OpTryRecv && other.Res != code(api.ResNo) || kind == api.OpRecv && (other.Status != api.Parks || len(s.Chans[lost].Send) != 0 || len(s.Chans[lost].Recv) != 1) {
				t.Fatalf("%+v", s)
			}
		})
		if len(winners) != 2 {
			t.Errorf("only %v won", winners)
		}
	})
}

// Of three that receive from one channel, one gets what is in the ring, by the one that waits to send; that one's value comes next, and the third one waits, or doesn't, as a try.
func TestThreeAtOneChannel(t *testing.T) {
	for _, third := range []int{api.OpRecv, api.OpTryRecv} {
		s := small(recvs(api.OpRecv, api.OpRecv, third), api.Chan{Cap: 1, Buf: []int64{4}})
		waits(&s, api.OpSend, 1)
		orders := map[string]bool{}
		all(t, s, 3, func(s api.State) {
			first := s.Gs[3].With
			next := slices.IndexFunc(s.Gs, func(g api.G) bool { return g.Res == got(61) })
			if first < 0 || next < 0 {
				t.Fatalf("%+v", s)
			}
			orders[fmt.Sprint(first, next)] = true
			if s.Gs[3].Status != api.Runs || !s.Sudogs[0].Done || s.Gs[first].Res != got(4) || s.Gs[first].With != 3 || s.Gs[next].With != -1 || s.Gs[first].Point >= s.Gs[next].Point || s.Chans[0].Lock != -1 || len(s.Chans[0].Buf) > 0 {
				t.Fatalf("%+v", s)
			}
			last, waiting := s.Gs[3-first-next], s.Chans[0].Recv
			if len(waiting) == 1 {
				if x := s.Sudogs[waiting[0]]; x != (api.Sudog{Live: true, G: 3 - first - next, Ch: 1, Case: -1}) || last.Status != api.Parks || last.Mine != waiting[0] || last.Arrive == 0 {
					t.Fatalf("%+v", s)
				}
			} else if last.Place != api.AtAnswer || last.Res.Code != api.ResNo || last.Point == 0 || third != api.OpTryRecv {
				t.Fatalf("%+v", s)
			}
		})
		// Each of them may be first, second and third.
		if len(orders) != 6 {
			t.Errorf("only %v were seen", orders)
		}
	}
}

// Two send and two receive: in each order each value comes to one of them, whoever parks is made ready, and nothing is left.
func TestSendsAndReceives(t *testing.T) {
	for room := range 3 {
		ops := append(recvs(api.OpRecv, api.OpRecv), api.Op{Kind: api.OpSend, Ch: 1, V: 1}, api.Op{Kind: api.OpSend, Ch: 1, V: 2})
		parked := map[int]bool{}
		all(t, small(ops, api.Chan{Cap: room}), 4, func(s api.State) {
			values := []int64{s.Gs[0].Res.V, s.Gs[1].Res.V}
			slices.Sort(values)
			if !slices.Equal(values, []int64{1, 2}) {
				t.Fatalf("received were %v: %+v", values, s)
			}
			for i, g := range s.Gs {
				if g.Place != api.AtAnswer || g.Status != api.Runs || g.Token || g.Res.Code != api.ResDone || !g.Res.Ok {
					t.Fatalf("%+v", s)
				}
				parked[i] = parked[i] || g.Arrive > 0
			}
			if c := s.Chans[0]; c.Lock != -1 || len(c.Buf)+len(c.Recv)+len(c.Send) > 0 || slices.ContainsFunc(s.Sudogs, func(x api.Sudog) bool { return x.Live }) {
				t.Fatalf("%+v", s)
			}
		})
		// With places for both, nobody who sends has to wait.
		if !parked[0] || !parked[1] || parked[2] != (room < 2) || parked[3] != (room < 2) {
			t.Errorf("with a room of %d %v parked", room, parked)
		}
	}
}

// One that receives is made ready ahead of parking: it doesn't park, and goes on to the end.
func TestReadyAheadOfParking(t *testing.T) {
	for _, served := range []bool{true, false} {
		w := state.Of(small(recvs(api.OpRecv), api.Chan{Cap: 1}))
		goes(t, w, api.AtCheck, api.AtTake, api.AtRing, api.AtSudog, api.AtQueue, api.AtRelease, api.AtPark)
		x, ok := w.Queues.Pop(0)
		if !ok || w.Gs[0].Mine != x || w.Gs[0].Arrive != 6 || w.Locks.Owner(0) != -1 {
			t.Fatalf("%+v", w.Gs[0])
		}
		want := code(api.ResDone)
		if served {
			w.Sudogs[x].V, w.Sudogs[x].Done = 8, true
			want = got(8)
		}
		w.Gs[0].Param = x
		w.Bench.Ready(0)
		goes(t, w, api.AtWake, api.AtFree, api.AtAnswer)
		if w.Bench.Status(0) != api.Runs || w.Gs[0].Res != want || w.Pool.Count() != 0 || w.Sudogs[x] != (api.Sudog{}) || recv.Step(w, 0) {
			t.Fatalf("%+v", w.Gs[0])
		}
	}
}

// Without a sudog left a receive is told so, and nothing is done.
func TestNoSudogLeft(t *testing.T) {
	s := small(recvs(api.OpRecv, api.OpRecv), api.Chan{})
	s.Config.Sudogs, s.Sudogs = 1, s.Sudogs[:1]
	all(t, s, 2, func(s api.State) {
		waiting, other := s.Gs[s.Sudogs[0].G], s.Gs[1-s.Sudogs[0].G]
		if waiting.Status != api.Parks || other.Place != api.AtAnswer || other.Res != code(api.ResNone) || other.Point != 0 || other.Arrive != 0 || s.Chans[0].Lock != -1 || len(s.Chans[0].Recv) != 1 {
			t.Fatalf("%+v", s)
		}
	})
}

// A try looks three times: what comes in, and a close, may fall between any two of them.
func TestTryBetweenLooks(t *testing.T) {
	begin := func() *state.World { return state.Of(small(recvs(api.OpTryRecv), api.Chan{Cap: 1})) }
	ends := func(w *state.World, res api.Result, point int) {
		t.Helper()
		if w.Gs[0].Res != res || w.Gs[0].Point != point || recv.Step(w, 0) {
			t.Errorf("%+v; want %+v, %d", w.Gs[0], res, point)
		}
	}
	// A value comes in, but nobody closes: the first look is what counts.
	w := begin()
	goes(t, w, api.AtAgain)
	w.Rings[0].Put(5)
	goes(t, w, api.AtAnswer)
	ends(w, code(api.ResNo), 1)
	// Nothing comes in, somebody closes: the third look is what counts.
	w = begin()
	goes(t, w, api.AtAgain)
	w.Closed[0] = true
	goes(t, w, api.AtThird)
	if w.Gs[0].Point != 1 {
		t.Errorf("%+v", w.Gs[0])
	}
	goes(t, w, api.AtAnswer)
	ends(w, code(api.ResDone), 3)
	// Both: the value is received.
	w = begin()
	goes(t, w, api.AtAgain)
	w.Rings[0].Put(5)
	w.Closed[0] = true
	goes(t, w, api.AtThird, api.AtLock)
	if w.Gs[0].Point != 0 {
		t.Errorf("%+v", w.Gs[0])
	}
	goes(t, w, api.AtCheck, api.AtRing, api.AtUnlock, api.AtAnswer)
	ends(w, got(5), 6)
	// Both, but another one is faster: the channel is found empty under its lock.
	w = begin()
	goes(t, w, api.AtAgain)
	w.Rings[0].Put(5)
	w.Closed[0] = true
	goes(t, w, api.AtThird, api.AtLock)
	w.Rings[0].Get()
	goes(t, w, api.AtCheck, api.AtUnlock, api.AtAnswer)
	ends(w, code(api.ResDone), 5)
	// Something was there at the first look, but another one is faster; nobody closes.
	w = begin()
	w.Rings[0].Put(5)
	goes(t, w, api.AtLock)
	w.Rings[0].Get()
	goes(t, w, api.AtCheck, api.AtTake, api.AtRing, api.AtUnlock, api.AtAnswer)
	ends(w, code(api.ResNo), 5)
}
