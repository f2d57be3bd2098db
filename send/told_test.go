package send_test

import (
	"fmt"
	"slices"
	"testing"

	"handoff/api"
	"handoff/state"
)

// What the chapter's words say is written down here once more, of States: what they leave to layers 5 and 12 (Take, Common) is asked of these.

// told does to a State what the chapter says of a goroutine's step; false, if it says nothing.
func told(s *api.State, g int) bool {
	o := opOf(*s, g)
	if o.Kind != 2 && o.Kind != 4 {
		return false
	}
	me := &s.Gs[g]
	switch me.Place {
	case 1, 2, 5, 6, 9, 11:
		toldOfChannel(s, g, o, &s.Chans[o.Ch-1])
	case 7:
		toldWin(s, g, 6, 8)
	case 8:
		x := me.Hold
		out(s, x)
		s.Sudogs[x].V = o.V
		toldServe(s, g, x)
		me.Res, me.Place = api.Result{Code: 1, Case: -1, Ok: true}, 16
	case 10:
		toldMine(s, g, api.Sudog{Live: true, G: g, Ch: o.Ch, Case: -1, Send: true, V: o.V})
	case 14:
		me.Res = api.Result{Code: 3, Case: -1}
		if s.Sudogs[me.Param].Done {
			me.Res = api.Result{Code: 1, Case: -1, Ok: true}
		}
		me.Param, me.Place = -1, 15
	default:
		w := state.Of(*s)
		ok := w.Common(g)
		*s = w.State()
		return ok
	}
	return true
}

// toldOfChannel is of the places at which the channel is asked.
func toldOfChannel(s *api.State, g int, o api.Op, c *api.Chan) {
	me := &s.Gs[g]
	switch me.Place {
	case 1:
		me.Place = 2
		if c.Cap > 0 && len(c.Buf) < c.Cap || c.Cap == 0 && len(c.Recv) > 0 {
			me.Place = 4
		} else {
			me.Point = s.Step
		}
	case 2:
		if c.Closed {
			me.Point, me.Place = 0, 4
		} else {
			me.Res.Code, me.Place = 2, 18
		}
	case 5:
		me.Place = 6
		if c.Closed {
			me.Res, me.Point, me.Place = api.Result{Code: 3, Case: -1}, s.Step, 16
		}
	case 6:
		if !toldTake(s, g, 2*o.Ch-2, 7, 8) {
			me.Place = 9
		}
	case 9:
		switch {
		case len(c.Buf) < c.Cap:
			c.Buf = slices.Concat(c.Buf, []int64{o.V})
			me.Res, me.Point, me.Place = api.Result{Code: 1, Case: -1, Ok: true}, s.Step, 16
		case o.Kind == 4:
			me.Res, me.Point, me.Place = api.Result{Code: 2, Case: -1}, s.Step, 16
		default:
			me.Place = 10
		}
	case 11:
		c.Send = slices.Concat(c.Send, []int{me.Mine})
		me.Arrive, me.Place = s.Step, 12
	}
}

func toldTake(s *api.State, g, queue, win, hand int) bool {
	row := rowOf(*s, queue)
	if len(row) == 0 {
		return false
	}
	x, me := row[0], &s.Gs[g]
	me.Hold = x
	if s.Sudogs[x].Case > -1 {
		me.Place = win
		return true
	}
	out(s, x)
	me.T, me.Place = s.Step, hand
	toldPair(s, g, x)
	return true
}

func toldWin(s *api.State, g, lost, won int) {
	me := &s.Gs[g]
	if x := me.Hold; s.Gs[s.Sudogs[x].G].Picked {
		out(s, x)
		me.Hold, me.Place = -1, lost
	} else {
		s.Gs[s.Sudogs[x].G].Picked = true
		me.T, me.Place = s.Step, won
		toldPair(s, g, x)
	}
}

func toldMine(s *api.State, g int, one api.Sudog) {
	w := state.Of(*s)
	x, ok := w.Pool.Take(g)
	*s = w.State()
	if !ok {
		s.Gs[g].Res.Code, s.Gs[g].Place = 6, 16
		return
	}
	s.Sudogs[x] = one
	s.Gs[g].Mine, s.Gs[g].Place = x, 11
}

func toldPair(s *api.State, g, x int) {
	h := s.Sudogs[x].G
	s.Gs[g].Point, s.Gs[g].With = s.Gs[g].T, h
	s.Gs[h].Point, s.Gs[h].With, s.Gs[h].Fire = s.Gs[g].T, g, s.Sudogs[x].Case
}

func toldServe(s *api.State, g, x int) {
	h := s.Sudogs[x].G
	s.Sudogs[x].Done = true
	s.Gs[h].Param = x
	s.Gs[g].Wakes, s.Gs[g].Hold = slices.Concat(s.Gs[g].Wakes, []int{h}), -1
}

// opOf answers a goroutine's op, a zero one if there is none at its At.
func opOf(s api.State, g int) api.Op {
	if s.Gs[g].At == len(s.Gs[g].Ops) {
		return api.Op{}
	}
	return s.Gs[g].Ops[s.Gs[g].At]
}

// rowOf answers what is in a queue; of no queue nothing.
func rowOf(s api.State, queue int) []int {
	switch {
	case queue < 0 || queue >= 2*len(s.Chans):
		return nil
	case queue%2 == 0:
		return s.Chans[queue/2].Recv
	}
	return s.Chans[queue/2].Send
}

// out takes a sudog out of its queue, if it is in one.
func out(s *api.State, x int) {
	is := func(y int) bool { return x == y }
	for i, c := range s.Chans {
		s.Chans[i].Recv = slices.DeleteFunc(slices.Clone(c.Recv), is)
		s.Chans[i].Send = slices.DeleteFunc(slices.Clone(c.Send), is)
	}
}

// queued tells whether a sudog is in a queue.
func queued(s api.State, x int) bool {
	return slices.ContainsFunc(s.Chans, func(c api.Chan) bool { return slices.Contains(c.Recv, x) || slices.Contains(c.Send, x) })
}

// holds ends a test unless a world's State is as it is told.
func holds(t *testing.T, w *state.World, want api.State) {
	t.Helper()
	// Written, a list that is nil and an empty one are the same.
	if a, b := fmt.Sprintf("%+v", w.State()), fmt.Sprintf("%+v", want); a != b {
		t.Fatalf("State is\n%s; want\n%s", a, b)
	}
}

// draws are numbers by rule.
type draws struct{ next uint64 }

func (d *draws) n(n int) int {
	d.next = d.next*6364136223846793005 + 1442695040888963407
	return int(d.next>>33) % n
}

func (d *draws) is() bool { return d.n(2) == 0 }

// any answers a number, now and then a great one.
func (d *draws) any() int {
	if d.n(6) == 0 {
		return []int{-1 << 63, 1<<63 - 1, -1 << 31, 1 << 32, 255, -256}[d.n(6)]
	}
	return d.n(40) - 3
}

// orNone answers one of these, or -1.
func (d *draws) orNone(l []int) int {
	if len(l) == 0 || d.is() {
		return -1
	}
	return l[d.n(len(l))]
}

// op answers one that is RIGHT, most often a send.
func (d *draws) op() api.Op {
	switch kind := 1 + d.n(18); kind {
	case 1:
		return api.Op{Kind: kind, N: d.n(5)}
	case 3, 5, 6, 7, 8:
		return api.Op{Kind: kind, Ch: d.n(9)}
	case 9:
		return api.Op{Kind: kind, Cases: []api.Case{{Ch: d.n(9)}, {Send: true, Ch: d.n(9), V: int64(d.n(256))}}, Else: d.is()}
	}
	return api.Op{Kind: 2 + 2*d.n(2), Ch: d.n(9), V: int64(d.n(256))}
}

// state answers one that is whole, and its live sudogs.
func (d *draws) state() (api.State, []int) {
	s := api.State{Config: api.Config{Sudogs: d.n(13), Cache: 1 + d.n(4)}, Step: d.any()}
	gs := 1 + d.n(8)
	for range 1 + d.n(8) {
		c := api.Chan{Cap: max(d.n(7)-2, 0), Closed: d.n(3) == 0, Lock: d.n(gs+1) - 1}
		for range d.n(c.Cap + 1) {
			c.Buf = append(c.Buf, int64(d.any()))
		}
		s.Chans = append(s.Chans, c)
	}
	live := d.sudogs(&s, gs)
	for range gs {
		g := api.G{
			Place: d.n(35), Status: d.n(3), Token: d.is(), Call: d.any(), Picked: d.is(),
			Param: d.orNone(live), Mine: d.orNone(live), Hold: d.orNone(live),
			T: d.any(), Arrive: d.any(), Point: d.any(), With: d.any(), Fire: d.any(),
			Res: api.Result{Code: d.any(), Case: d.any(), V: int64(d.any()), Ok: d.is(), N: d.any()},
		}
		for range d.n(4) {
			g.Ops, g.Wakes, g.Locks = append(g.Ops, d.op()), append(g.Wakes, d.n(gs)), []int{1 + d.n(len(s.Chans))}
		}
		g.At, g.K = d.n(len(g.Ops)+1), d.n(len(g.Locks)+1)
		s.Gs = append(s.Gs, g)
	}
	s.Draws = []uint16{uint16(d.n(1 << 16)), uint16(d.n(1 << 16))}
	s.Drawn = d.n(3)
	s.Done = []api.Mark{{G: d.any(), Op: d.any(), Re: d.any()}}
	return s, live
}

// sudogs puts a State's sudogs into its pool and its queues: those that are live are answered.
func (d *draws) sudogs(s *api.State, gs int) []int {
	s.Fresh = d.n(s.Config.Sudogs + 1)
	s.Sudogs, s.Cache = make([]api.Sudog, s.Config.Sudogs), make([][]int, gs)
	var live []int
	falls := d.is()
	for x := range s.Fresh {
		// Rows fall at times, so that the first of them isn't the least.
		if falls {
			x = s.Fresh - 1 - x
		}
		cache, kind := &s.Cache[d.n(gs)], d.n(8)
		if kind == 0 && len(*cache) < s.Config.Cache {
			*cache = append(*cache, x)
			continue
		}
		if kind <= 1 {
			s.Middle = append(s.Middle, x)
			continue
		}
		live = append(live, x)
		o := api.Sudog{Live: true, G: d.n(gs), Ch: 1 + d.n(len(s.Chans)), Case: max(d.n(10)-4, -1), Send: d.n(3) == 0, V: int64(d.any()), Done: d.is()}
		s.Sudogs[x] = o
		switch c := &s.Chans[o.Ch-1]; {
		case kind == 2:
		case o.Send:
			c.Send = append(c.Send, x)
		default:
			c.Recv = append(c.Recv, x)
		}
	}
	return live
}

// ready answers a whole State in which a goroutine that sends, to a channel that is made, has in hand what a place asks for.
func (d *draws) ready(place int) (api.State, int) {
	for {
		s, live := d.state()
		g := d.n(len(s.Gs))
		me := &s.Gs[g]
		ch := 1 + d.n(len(s.Chans))
		me.Ops, me.At = []api.Op{d.op(), {Kind: 2 + 2*d.n(2), Ch: ch, V: int64(d.n(256))}}, 1
		me.Place, me.Status = place, api.Runs
		has := true
		switch place {
		case api.AtWin, api.AtHand:
			has = me.Hold != -1
		case api.AtWake:
			has = me.Param != -1
		case api.AtQueue, api.AtFree:
			has = me.Mine != -1 && !queued(s, me.Mine)
		case api.AtRelease, api.AtUnlock:
			s.Chans[ch-1].Lock = g
		case api.AtReady:
			has = len(me.Wakes) > 0
		}
		if has && (len(live) > 0 || d.n(8) == 0) {
			return s, g
		}
	}
}
