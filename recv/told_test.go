package recv_test

import (
	"fmt"
	"slices"
	"testing"

	"handoff/api"
	"handoff/send"
	"handoff/state"
)

// What the chapter's words say is written down here once more, of States: what they leave to layers 12 and 13 (Common and Serve, Take, Win and Mine) is asked of these.

// told does to a State what the chapter says of a goroutine's step; false, if it says nothing.
func told(s *api.State, g int) bool {
	var o api.Op
	if me := s.Gs[g]; me.At < len(me.Ops) {
		o = me.Ops[me.At]
	}
	if o.Kind != 3 && o.Kind != 5 {
		return false
	}
	switch place := s.Gs[g].Place; place {
	case 1, 2, 3, 5, 9, 11:
		toldOfChannel(&s.Gs[g], o, &s.Chans[o.Ch-1], s.Step)
		return true
	case 8:
		toldAtHand(s, g, o.Ch)
		return true
	case 14:
		toldAtWake(s, &s.Gs[g])
		return true
	default:
		w := state.Of(*s)
		ok := toldElsewhere(w, g, o.Ch, place)
		*s = w.State()
		return ok
	}
}

// toldOfChannel is of the places at which only the goroutine and the channel count.
func toldOfChannel(me *api.G, o api.Op, c *api.Chan, now int) {
	is := len(c.Buf) > 0
	if c.Cap == 0 {
		is = len(c.Send) > 0
	}
	zero := api.Result{Code: 1, Case: -1}
	switch {
	case me.Place == 1 && is:
		me.Place = 4
	case me.Place == 1:
		me.Place, me.Point = 2, now
	case me.Place == 2 && c.Closed:
		me.Place = 3
	case me.Place == 2:
		me.Place, me.Res.Code = 18, 2
	case me.Place == 3 && is:
		me.Place, me.Point = 4, 0
	case me.Place == 3:
		me.Place, me.Point, me.Res = 18, now, zero
	case me.Place == 5 && !c.Closed:
		me.Place = 6
	case me.Place == 5 && len(c.Buf) > 0:
		me.Place = 9
	case me.Place == 5:
		me.Place, me.Point, me.Res = 16, now, zero
	case me.Place == 9 && len(c.Buf) > 0:
		me.Place, me.Point, me.Res = 16, now, api.Result{Code: 1, Case: -1, V: c.Buf[0], Ok: true}
		c.Buf = c.Buf[1:]
	case me.Place == 9 && o.Kind == 5:
		me.Place, me.Point, me.Res = 16, now, api.Result{Code: 2, Case: -1}
	case me.Place == 9:
		me.Place = 10
	case me.Place == 11:
		me.Place, me.Arrive, c.Recv = 12, now, slices.Concat(c.Recv, []int{me.Mine})
	}
}

// toldElsewhere is of the places that are other layers' own, but for where they lead.
func toldElsewhere(w *state.World, g, ch, place int) bool {
	switch place {
	case 6:
		if !send.Take(w, g, 2*ch-1, 7, 8) {
			w.Gs[g].Place = 9
		}
	case 7:
		send.Win(w, g, 6, 8)
	case 10:
		send.Mine(w, g, api.Sudog{Live: true, G: g, Ch: ch, Case: -1})
	default:
		return w.Common(g)
	}
	return true
}

func toldAtHand(s *api.State, g, ch int) {
	x := s.Gs[g].Hold
	out(s, x)
	v := toldHand(s, ch, x)
	w := state.Of(*s)
	w.Serve(g, x, true)
	*s = w.State()
	s.Gs[g].Res, s.Gs[g].Place = api.Result{Code: 1, Case: -1, V: v, Ok: true}, 16
}

func toldAtWake(s *api.State, me *api.G) {
	me.Res = api.Result{Code: 1, Case: -1}
	if x := s.Sudogs[me.Param]; x.Done {
		me.Res.V, me.Res.Ok = x.V, true
	}
	me.Param, me.Place = -1, 15
}

// toldHand does to a State what the chapter says of Hand.
func toldHand(s *api.State, ch, x int) int64 {
	c, v := &s.Chans[ch-1], s.Sudogs[x].V
	if c.Cap == 0 {
		return v
	}
	if len(c.Buf) < c.Cap {
		return 0
	}
	first := c.Buf[0]
	c.Buf = slices.Concat(c.Buf[1:], []int64{v})
	return first
}

// out takes a sudog out of its queue, if it is in one.
func out(s *api.State, x int) {
	for i, c := range s.Chans {
		s.Chans[i].Recv, s.Chans[i].Send = without(c.Recv, x), without(c.Send, x)
	}
}

// without answers a row in which x isn't.
func without(row []int, x int) []int {
	return slices.DeleteFunc(slices.Clone(row), func(y int) bool { return x == y })
}

// queued tells whether a sudog is in a queue.
func queued(s api.State, x int) bool {
	return slices.ContainsFunc(s.Chans, func(c api.Chan) bool { return slices.Contains(c.Recv, x) || slices.Contains(c.Send, x) })
}

// holds ends a test unless a world's State is as it is told.
func holds(t *testing.T, w *state.World, want api.State) {
	t.Helper()
	// Written, a list that is nil and an empty one are the same.
	if a, b := fmt.Sprintf("%+v", w.State()), fmt.Sprintf("%+v", want); a != b {
		t.Fatalf("State is\n%s; want\n%s", a, b)
	}
}

// draws are numbers by rule.
type draws struct{ next uint64 }

func (d *draws) n(n int) int {
	d.next = d.next*6364136223846793005 + 1442695040888963407
	return int(d.next>>33) % n
}

func (d *draws) is() bool { return d.n(2) == 0 }

// any answers a number, now and then a great one.
func (d *draws) any() int {
	if d.n(6) == 0 {
		return []int{-1 << 63, 1<<63 - 1, -1 << 31, 1 << 32, 255, -256}[d.n(6)]
	}
	return d.n(40) - 3
}

// orNone answers one of these, or -1.
func (d *draws) orNone(l []int) int {
	if len(l) == 0 || d.is() {
		return -1
	}
	return l[d.n(len(l))]
}

// op answers one that is RIGHT, most often a receive.
func (d *draws) op() api.Op {
	switch kind := 1 + d.n(18); kind {
	case 1:
		return api.Op{Kind: kind, N: d.n(5)}
	case 2, 4:
		return api.Op{Kind: kind, Ch: d.n(9), V: int64(d.n(256))}
	case 6, 7, 8:
		return api.Op{Kind: kind, Ch: d.n(9)}
	case 9:
		return api.Op{Kind: kind, Cases: []api.Case{{Ch: d.n(9)}, {Send: true, Ch: d.n(9), V: int64(d.n(256))}}, Else: d.is()}
	}
	return api.Op{Kind: 3 + 2*d.n(2), Ch: d.n(9)}
}

// channels answers from 1 to 8 of them, with empty queues; most have a full ring, or none.
func (d *draws) channels(gs int) []api.Chan {
	l := make([]api.Chan, 1+d.n(8))
	for i := range l {
		c := &l[i]
		c.Cap, c.Closed, c.Lock = max(d.n(7)-2, 0), d.n(3) == 0, d.n(gs+1)-1
		n := c.Cap
		if d.is() {
			n = d.n(n + 1)
		}
		for range n {
			c.Buf = append(c.Buf, int64(d.any()))
		}
	}
	return l
}

// state answers one that is whole, and its live sudogs.
func (d *draws) state() (api.State, []int) {
	gs := 1 + d.n(8)
	s := api.State{
		Config: api.Config{Sudogs: d.n(13), Cache: 1 + d.n(4)}, Step: d.any(), Chans: d.channels(gs),
		Draws: []uint16{uint16(d.n(1 << 16)), uint16(d.n(1 << 16))}, Drawn: d.n(3),
		Done: []api.Mark{{G: d.any(), Op: d.any(), Re: d.any()}},
	}
	live := d.sudogs(&s, gs)
	for range gs {
		g := api.G{
			Place: d.n(35), Status: d.n(3), Token: d.is(), Call: d.any(), Picked: d.is(),
			Param: d.orNone(live), Mine: d.orNone(live), Hold: d.orNone(live),
			T: d.any(), Arrive: d.any(), Point: d.any(), With: d.any(), Fire: d.any(),
			Res: api.Result{Code: d.any(), Case: d.any(), V: int64(d.any()), Ok: d.is(), N: d.any()},
		}
		for range d.n(4) {
			g.Ops, g.Wakes, g.Locks = append(g.Ops, d.op()), append(g.Wakes, d.n(gs)), []int{1 + d.n(len(s.Chans))}
		}
		g.At, g.K = d.n(len(g.Ops)+1), d.n(len(g.Locks)+1)
		s.Gs = append(s.Gs, g)
	}
	return s, live
}

// sudogs puts a State's sudogs into its pool and its queues: those that are live are answered.
func (d *draws) sudogs(s *api.State, gs int) []int {
	s.Fresh = d.n(s.Config.Sudogs + 1)
	s.Sudogs, s.Cache = make([]api.Sudog, s.Config.Sudogs), make([][]int, gs)
	var live []int
	falls := d.is()
	for x := range s.Fresh {
		// Rows fall at times, so that the first of them isn't the least.
		if falls {
			x = s.Fresh - 1 - x
		}
		cache, kind := &s.Cache[d.n(gs)], d.n(8)
		if kind == 0 && len(*cache) < s.Config.Cache {
			*cache = append(*cache, x)
			continue
		}
		if kind <= 1 {
			s.Middle = append(s.Middle, x)
			continue
		}
		live = append(live, x)
		o := api.Sudog{Live: true, G: d.n(gs), Ch: 1 + d.n(len(s.Chans)), Case: max(d.n(10)-4, -1), Send: d.n(3) > 0, V: int64(d.any()), Done: d.is()}
		s.Sudogs[x] = o
		switch c := &s.Chans[o.Ch-1]; {
		case kind == 2:
		case o.Send:
			c.Send = append(c.Send, x)
		default:
			c.Recv = append(c.Recv, x)
		}
	}
	return live
}

// ready answers a whole State in which a goroutine that receives, from a channel that is made, has in hand what a place asks for.
func (d *draws) ready(place int) (api.State, int) {
	for {
		s, live := d.state()
		g, ch := d.n(len(s.Gs)), 1+d.n(len(s.Chans))
		me := &s.Gs[g]
		me.Ops, me.At = []api.Op{d.op(), {Kind: 3 + 2*d.n(2), Ch: ch}}, 1
		me.Place, me.Status = place, api.Runs
		has := true
		switch place {
		case api.AtWin, api.AtHand:
			has = me.Hold != -1
		case api.AtWake:
			has = me.Param != -1
		case api.AtQueue, api.AtFree:
			has = me.Mine != -1 && !queued(s, me.Mine)
		case api.AtRelease, api.AtUnlock:
			s.Chans[ch-1].Lock = g
		case api.AtReady:
			has = len(me.Wakes) > 0
		}
		if has && (len(live) > 0 || d.n(8) == 0) {
			return s, g
		}
	}
}
