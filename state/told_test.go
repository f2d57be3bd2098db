package state_test

import (
	"reflect"
	"slices"
	"testing"

	"handoff/api"
	"handoff/state"
)

// What the chapter's words say is written down here once more, of States: none of it calls the program.

// emptyG answers a goroutine with nothing in hand.
func emptyG(g api.G) api.G {
	g.Call, g.Picked, g.T, g.Arrive, g.Point, g.K = 0, false, 0, 0, 0, 0
	g.Param, g.Mine, g.Hold, g.With, g.Fire = -1, -1, -1, -1, -1
	g.Res = api.Result{Case: -1}
	g.Order, g.Locks, g.Sgs, g.Wakes = nil, nil, nil, nil
	return g
}

// opOf answers a goroutine's op, a zero one if there is none at its At.
func opOf(s api.State, g int) api.Op {
	if s.Gs[g].At == len(s.Gs[g].Ops) {
		return api.Op{}
	}
	return s.Gs[g].Ops[s.Gs[g].At]
}

func toldClear(s api.State, g int) { s.Gs[g] = emptyG(s.Gs[g]) }

func toldPair(s api.State, g, x int) {
	other := s.Sudogs[x].G
	s.Gs[g].With = other
	s.Gs[g].Point = s.Gs[g].T
	s.Gs[other].With = g
	s.Gs[other].Point = s.Gs[g].T
	s.Gs[other].Fire = s.Sudogs[x].Case
}

func toldServe(s api.State, g, x int, done bool) {
	s.Sudogs[x].Done = done
	s.Gs[s.Sudogs[x].G].Param = x
	s.Gs[g].Hold = -1
	s.Gs[g].Wakes = slices.Concat(s.Gs[g].Wakes, []int{s.Sudogs[x].G})
}

// toldReady makes one ready: one that parks, or one that runs.
func toldReady(s api.State, g int) {
	switch s.Gs[g].Status {
	case 0:
		s.Gs[g].Token = true
	case 1:
		s.Gs[g].Status = 0
	}
}

// toldPark parks one that runs, unless it has a token.
func toldPark(s api.State, g int) {
	if s.Gs[g].Status != 0 {
		return
	}
	if s.Gs[g].Token {
		s.Gs[g].Token = false
	} else {
		s.Gs[g].Status = 1
	}
}

// toldGive gives a live sudog back.
func toldGive(s *api.State, g, x int) {
	c := slices.Clone(s.Cache[g])
	if len(c) == s.Config.Cache {
		for len(c) > s.Config.Cache/2 {
			s.Middle = slices.Concat(s.Middle, c[len(c)-1:])
			c = c[:len(c)-1]
		}
	}
	s.Cache[g] = append(c, x)
}

func toldCommon(s *api.State, g int) bool {
	me := &s.Gs[g]
	ready := func() {
		me.Place = 18
		if len(me.Wakes) != 0 {
			me.Place = 17
		}
	}
	switch me.Place {
	case 4:
		o := opOf(*s, g)
		if c := &s.Chans[o.Ch-1]; c.Lock == -1 {
			c.Lock = g
			me.Place = 5
			if o.Kind == 6 {
				me.Place = 21
			}
		}
	case 12:
		s.Chans[opOf(*s, g).Ch-1].Lock = -1
		me.Place = 13
	case 13:
		toldPark(*s, g)
		me.Place = 14
	case 15:
		x := me.Mine
		s.Sudogs[x] = api.Sudog{}
		toldGive(s, g, x)
		me.Mine = -1
		me.Place = 18
	case 16:
		s.Chans[opOf(*s, g).Ch-1].Lock = -1
		ready()
	case 17:
		toldReady(*s, me.Wakes[0])
		me.Wakes = me.Wakes[1:]
		ready()
	default:
		return false
	}
	return true
}

// bare answers a value in memory of its own, all empty lists of which are nil.
func bare[T any](v T) T {
	return bareValue(reflect.ValueOf(&v).Elem()).Interface().(T)
}

func bareValue(v reflect.Value) reflect.Value {
	to := reflect.New(v.Type()).Elem()
	switch v.Kind() {
	case reflect.Slice:
		if v.Len() > 0 {
			to.Set(reflect.MakeSlice(v.Type(), v.Len(), v.Len()))
		}
		for i := range v.Len() {
			to.Index(i).Set(bareValue(v.Index(i)))
		}
	case reflect.Struct:
		for i := range v.NumField() {
			to.Field(i).Set(bareValue(v.Field(i)))
		}
	default:
		to.Set(v)
	}
	return to
}

// same tells whether two values are one, where a list that is nil and an empty one are.
func same[T any](a, b T) bool { return reflect.DeepEqual(bare(a), bare(b)) }

// holds ends a test unless a world's State is as it is told.
func holds(t *testing.T, w *state.World, want api.State) {
	t.Helper()
	if s := w.State(); !same(s, want) {
		t.Fatalf("State is\n%+v; want\n%+v", s, want)
	}
}

// roomy answers a value whose lists have spare room behind them, in which something stands.
func roomy[T any](v T) T {
	return roomyValue(reflect.ValueOf(&v).Elem()).Interface().(T)
}

func roomyValue(v reflect.Value) reflect.Value {
	to := reflect.New(v.Type()).Elem()
	switch v.Kind() {
	case reflect.Slice:
		to.Set(reflect.MakeSlice(v.Type(), v.Len()+3, v.Len()+3))
		for i := range v.Len() {
			to.Index(i).Set(roomyValue(v.Index(i)))
		}
		for i := v.Len(); i < to.Len(); i++ {
			scribbleValue(to.Index(i), 70)
		}
		to.Set(to.Slice(0, v.Len()))
	case reflect.Struct:
		for i := range v.NumField() {
			to.Field(i).Set(roomyValue(v.Field(i)))
		}
	default:
		to.Set(v)
	}
	return to
}

// whole answers a value whose lists end where their spare room does.
func whole[T any](v T) T {
	return wholeValue(reflect.ValueOf(&v).Elem()).Interface().(T)
}

func wholeValue(v reflect.Value) reflect.Value {
	to := reflect.New(v.Type()).Elem()
	switch v.Kind() {
	case reflect.Slice:
		all := v.Slice(0, v.Cap())
		to.Set(reflect.MakeSlice(v.Type(), all.Len(), all.Len()))
		for i := range all.Len() {
			to.Index(i).Set(wholeValue(all.Index(i)))
		}
	case reflect.Struct:
		for i := range v.NumField() {
			to.Field(i).Set(wholeValue(v.Field(i)))
		}
	default:
		to.Set(v)
	}
	return to
}

// scribble writes over all of a value's lists, spare room too.
func scribble[T any](v *T) { scribbleValue(reflect.ValueOf(v).Elem(), 99) }

func scribbleValue(v reflect.Value, x int64) {
	switch v.Kind() {
	case reflect.Slice:
		all := v.Slice(0, v.Cap())
		for i := range all.Len() {
			scribbleValue(all.Index(i), x)
		}
	case reflect.Struct:
		for i := range v.NumField() {
			scribbleValue(v.Field(i), x)
		}
	case reflect.Bool:
		v.SetBool(!v.Bool())
	case reflect.Uint16:
		v.SetUint(uint64(x))
	default:
		v.SetInt(x)
	}
}

// span is where a list lies, spare room too, and what list it is.
type span struct {
	from, to uintptr
	name     string
}

// spans adds where all lists of a value lie, those of hidden fields too.
func spans(l []span, name string, v reflect.Value) []span {
	switch v.Kind() {
	case reflect.Pointer:
		if !v.IsNil() {
			l = spans(l, name, v.Elem())
		}
	case reflect.Slice:
		if size := uintptr(v.Cap()) * v.Type().Elem().Size(); size > 0 {
			l = append(l, span{v.Pointer(), v.Pointer() + size, name})
		}
		for i := range v.Len() {
			l = spans(l, name, v.Index(i))
		}
	case reflect.Struct:
		for i := range v.NumField() {
			l = spans(l, name+"."+v.Type().Field(i).Name, v.Field(i))
		}
	}
	return l
}

// apart ends a test if two lists of all these values share memory.
func apart(t *testing.T, values ...any) {
	t.Helper()
	var l []span
	for _, v := range values {
		l = spans(l, reflect.TypeOf(v).String(), reflect.ValueOf(v))
	}
	slices.SortFunc(l, func(a, b span) int {
		if a.from < b.from {
			return -1
		}
		return 1
	})
	for i := 1; i < len(l); i++ {
		if l[i].from < l[i-1].to {
			t.Fatalf("%s and %s share memory", l[i-1].name, l[i].name)
		}
	}
}

// draws are numbers by rule.
type draws struct{ next uint64 }

func (d *draws) n(n int) int {
	d.next = d.next*6364136223846793005 + 1442695040888963407
	return int(d.next>>33) % n
}

func (d *draws) is() bool { return d.n(2) == 0 }

// any answers a number, most often a small one.
func (d *draws) any() int {
	if d.n(4) == 0 {
		return []int{-1 << 63, 1<<63 - 1, -1 << 31, 1 << 32, 255, -256}[d.n(6)]
	}
	return d.n(40) - 3
}

// of answers one of these.
func (d *draws) of(l []int) int { return l[d.n(len(l))] }

// orNone answers one of these, or -1.
func (d *draws) orNone(l []int) int {
	if len(l) == 0 || d.is() {
		return -1
	}
	return d.of(l)
}

// mixed answers 0 to below n in some row.
func (d *draws) mixed(n int) []int {
	var l []int
	for x := range n {
		l = slices.Insert(l, d.n(len(l)+1), x)
	}
	return l
}

// op answers one that is RIGHT.
func (d *draws) op() api.Op {
	o := api.Op{Kind: 1 + d.n(9)}
	switch o.Kind {
	case 1:
		o.N = d.n(5)
	case 2, 4:
		o.Ch, o.V = d.n(9), int64(d.n(256))
	case 9:
		o.Else = d.is()
		for range d.n(7) {
			c := api.Case{Send: d.is(), Ch: d.n(9)}
			if c.Send {
				c.V = int64(d.n(256))
			}
			o.Cases = append(o.Cases, c)
		}
	default:
		o.Ch = d.n(9)
	}
	return o
}

func (d *draws) ops() []api.Op {
	var l []api.Op
	for range d.n(17) {
		l = append(l, d.op())
	}
	return l
}

func (d *draws) plan() [][]api.Op {
	var p [][]api.Op
	for range 1 + d.n(8) {
		p = append(p, d.ops())
	}
	return p
}

func (d *draws) result() api.Result {
	return api.Result{Code: d.any(), Case: d.any(), V: int64(d.any()), Ok: d.is(), N: d.any()}
}

// state answers one that is whole.
func (d *draws) state() api.State {
	s := api.State{Config: api.Config{Sudogs: d.n(65), Cache: 1 + d.n(16)}, Step: d.any()}
	gs := 1 + d.n(8)
	for range d.n(9) {
		c := api.Chan{Cap: d.n(5), Closed: d.is(), Lock: d.n(gs+1) - 1}
		for range d.n(c.Cap + 1) {
			c.Buf = append(c.Buf, int64(d.any()))
		}
		s.Chans = append(s.Chans, c)
	}
	live := d.sudogs(&s, gs)
	for range gs {
		s.Gs = append(s.Gs, d.g(s, gs, live))
	}
	for range d.n(20) {
		s.Draws = append(s.Draws, uint16(d.n(1<<16)))
	}
	s.Drawn = d.n(len(s.Draws) + 1)
	for range d.n(6) {
		s.Done = append(s.Done, api.Mark{G: d.any(), Op: d.any(), Call: d.any(), Arrive: d.any(), Point: d.any(), With: d.any(), Fire: d.any(), Re: d.any(), Res: d.result()})
	}
	return s
}

// sudogs puts a State's sudogs into its pool and its queues: those that are live are answered.
func (d *draws) sudogs(s *api.State, gs int) []int {
	s.Fresh = d.n(s.Config.Sudogs + 1)
	s.Sudogs = make([]api.Sudog, s.Config.Sudogs)
	s.Cache = make([][]int, gs)
	var live []int
	// What a sudog that isn't live has is anything.
	for x := range s.Sudogs {
		s.Sudogs[x] = api.Sudog{G: d.any(), Ch: d.any(), Case: d.any(), Send: d.is(), V: int64(d.any()), Done: d.is()}
	}
	for _, x := range d.mixed(s.Fresh) {
		cache := &s.Cache[d.n(gs)]
		switch kind := d.n(5); {
		case kind == 0 && len(*cache) < s.Config.Cache:
			*cache = append(*cache, x)
		case kind <= 1 || len(s.Chans) == 0:
			s.Middle = append(s.Middle, x)
		default:
			live = append(live, x)
			o := &s.Sudogs[x]
			o.Live, o.G, o.Ch, o.Case = true, d.n(gs), 1+d.n(len(s.Chans)), d.n(8)-1
			c := &s.Chans[o.Ch-1]
			if kind == 2 {
				continue
			}
			if o.Send {
				c.Send = append(c.Send, x)
			} else {
				c.Recv = append(c.Recv, x)
			}
		}
	}
	return live
}

// g answers a goroutine that a whole State may have.
func (d *draws) g(s api.State, gs int, live []int) api.G {
	g := api.G{
		Ops: d.ops(), Place: d.n(40) - 2, Status: d.n(3), Token: d.is(), Call: d.any(), Picked: d.is(),
		Param: d.orNone(live), Mine: d.orNone(live), Hold: d.orNone(live),
		T: d.any(), Arrive: d.any(), Point: d.any(), With: d.any(), Fire: d.any(), Res: d.result(),
	}
	g.At = d.n(len(g.Ops) + 1)
	var o api.Op
	if g.At < len(g.Ops) {
		o = g.Ops[g.At]
	}
	for _, k := range d.mixed(len(o.Cases)) {
		if ch := o.Cases[k].Ch; ch >= 1 && ch <= len(s.Chans) && d.n(4) != 0 {
			g.Order = append(g.Order, k)
		}
	}
	for i := range s.Chans {
		if d.is() {
			g.Locks = append(g.Locks, i+1)
		}
	}
	if d.is() {
		for range o.Cases {
			g.Sgs = append(g.Sgs, d.orNone(live))
		}
	}
	for range d.n(5) {
		g.Wakes = append(g.Wakes, d.n(gs))
	}
	g.K = d.n(max(len(g.Order), len(g.Locks)) + 1)
	return g
}

// liveOf answers the live sudogs of a State.
func liveOf(s api.State) []int {
	var l []int
	for x, o := range s.Sudogs {
		if o.Live {
			l = append(l, x)
		}
	}
	return l
}

// somewhere tells whether a sudog is in a queue.
func somewhere(s api.State, x int) bool {
	return slices.ContainsFunc(s.Chans, func(c api.Chan) bool { return slices.Contains(c.Recv, x) || slices.Contains(c.Send, x) })
}
