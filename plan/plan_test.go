package plan_test

import (
	"bytes"
	"math"
	"slices"
	"testing"

	"handoff/api"
	"handoff/plan"
)

// having is what ops of a kind have, as the chapter says.
type having struct{ ch, n, v, cases bool }

// kinds answers what ops of each right kind have.
func kinds() map[int]having {
	return map[int]having{
		1: {n: true},
		2: {ch: true, v: true},
		3: {ch: true},
		4: {ch: true, v: true},
		5: {ch: true},
		6: {ch: true},
		7: {ch: true},
		8: {ch: true},
		9: {cases: true},
	}
}

// numbers are numbers of all sizes and signs; cut to 8, 16 or 32 bits some of the wrong ones would be right.
func numbers() []int {
	return []int{0, 1, 4, 5, 8, 9, 255, 256, 257, 1<<16 + 1, 1 << 32, 1<<32 + 1, 1<<62 + 1, -1, -255, -256, 1 - 1<<32, math.MaxInt32, math.MinInt32, math.MaxInt, math.MinInt}
}

// within: is x from 0 to most?
func within(x, most int64) bool { return x >= 0 && x <= most }

// caseRow is a row of cases: may an op have it?
type caseRow struct {
	cases []api.Case
	right bool
}

// wrongCases are cases that no op may have.
func wrongCases() []api.Case {
	var wrong []api.Case
	for _, x := range numbers() {
		if !within(int64(x), 8) {
			wrong = append(wrong, api.Case{Ch: x}, api.Case{Send: true, Ch: x}, api.Case{Send: true, Ch: x, V: 255})
		}
		if !within(int64(x), 255) {
			wrong = append(wrong, api.Case{Send: true, V: int64(x)}, api.Case{Send: true, Ch: 8, V: int64(x)})
		}
		if x != 0 {
			wrong = append(wrong, api.Case{V: int64(x)}, api.Case{Ch: 8, V: int64(x)})
		}
	}
	return wrong
}

// caseRows are rows of cases, right ones and wrong ones.
func caseRows() []caseRow {
	rows := []caseRow{{nil, true}, {[]api.Case{}, true}, {make([]api.Case, 0, 3), true}}
	row := []api.Case{{}, {Send: true}, {Ch: 8}, {Send: true, Ch: 8, V: 255}, {Send: true, V: 1}, {Ch: 8}, {Ch: 1}, {}, {Send: true}}
	for n := range row {
		rows = append(rows, caseRow{row[:n+1], n+1 <= 6})
	}
	for n := range 300 {
		rows = append(rows, caseRow{make([]api.Case, n), n <= 6})
	}
	for _, wrong := range wrongCases() {
		for i := range 6 {
			for _, n := range []int{i + 1, 6} {
				with := slices.Clone(row[:n])
				with[i] = wrong
				rows = append(rows, caseRow{with, false})
			}
		}
	}
	return rows
}

// mayBe: may there be such an op, as the chapter's words say?
func mayBe(o api.Op, row caseRow) bool {
	has, ok := kinds()[o.Kind]
	switch {
	case !ok,
		!has.ch && o.Ch != 0, has.ch && !within(int64(o.Ch), 8),
		!has.n && o.N != 0, has.n && !within(int64(o.N), 4),
		!has.v && o.V != 0, has.v && !within(o.V, 255),
		!has.cases && (o.Else || len(row.cases) > 0), has.cases && !row.right:
		return false
	}
	return true
}

// draws are numbers that are drawn, the same ones in each run.
type draws struct{ x uint64 }

// draw is a number from 0 to n - 1.
func (d *draws) draw(n int) int {
	d.x = d.x*6364136223846793005 + 1442695040888963407
	return int(d.x>>33) % n
}

// op is a right op.
func (d *draws) op() api.Op {
	o := api.Op{Kind: 1 + d.draw(9)}
	has := kinds()[o.Kind]
	if has.ch {
		o.Ch = d.draw(9)
	}
	if has.n {
		o.N = d.draw(5)
	}
	if has.v {
		o.V = int64(d.draw(256))
	}
	if has.cases {
		o.Else = d.draw(2) == 1
		for range d.draw(7) {
			c := api.Case{Send: d.draw(2) == 1, Ch: d.draw(9)}
			if c.Send {
				c.V = int64(d.draw(256))
			}
			o.Cases = append(o.Cases, c)
		}
	}
	return o
}

// plan is a right plan.
func (d *draws) plan() [][]api.Op {
	p := make([][]api.Op, 1+d.draw(8))
	for g := range p {
		for range d.draw(17) {
			p[g] = append(p[g], d.op())
		}
	}
	return p
}

// bytesOf answers the bytes of a right plan, as the chapter says, each made by more from its least one and what its remainder is by.
func bytesOf(p [][]api.Op, more func(x, by int) byte) []byte {
	var b []byte
	put := func(x, by int) { b = append(b, more(x, by)) }
	flag := func(so bool) {
		if so {
			put(1, 2)
		} else {
			put(0, 2)
		}
	}
	put(len(p)-1, 8)
	for _, ops := range p {
		put(len(ops), 17)
		for _, o := range ops {
			put(o.Kind-1, 9)
			switch o.Kind {
			case 1:
				put(o.N, 5)
			case 2, 4:
				put(o.Ch, 9)
				put(int(o.V), 256)
			case 3, 5, 6, 7, 8:
				put(o.Ch, 9)
			case 9:
				put(len(o.Cases), 7)
				flag(o.Else)
				for _, c := range o.Cases {
					flag(c.Send)
					put(c.Ch, 9)
					if c.Send {
						put(int(c.V), 256)
					}
				}
			}
		}
	}
	return b
}

// least is each byte's least.
func least(x, _ int) byte { return byte(x) }

// some is one of the bytes of that remainder.
func (d *draws) some(x, by int) byte {
	return byte(x + by*d.draw((255-x)/by+1))
}

// one is a plan of one op.
func one(o api.Op) [][]api.Op { return [][]api.Op{{o}} }

// sameOp: have both the same fields, and the same cases, in order?
func sameOp(a, b api.Op) bool {
	if len(a.Cases) != len(b.Cases) {
		return false
	}
	for i, c := range a.Cases {
		if c != b.Cases[i] {
			return false
		}
	}
	return a.Kind == b.Kind && a.Ch == b.Ch && a.N == b.N && a.V == b.V && a.Else == b.Else
}

// samePlan: have both the same ops?
func samePlan(a, b [][]api.Op) bool {
	return slices.EqualFunc(a, b, func(x, y []api.Op) bool { return slices.EqualFunc(x, y, sameOp) })
}

// copyOf answers a plan's copy.
func copyOf(p [][]api.Op) [][]api.Op {
	q := make([][]api.Op, len(p))
	for g, ops := range p {
		q[g] = make([]api.Op, len(ops))
		for i, o := range ops {
			o.Cases = append([]api.Case{}, o.Cases...)
			q[g][i] = o
		}
	}
	return q
}

// decodes tells an error unless that is what Decode makes of bytes.
func decodes(t *testing.T, b []byte, want [][]api.Op, used int) {
	t.Helper()
	if p, n := plan.Decode(b); !samePlan(p, want) || n != used {
		t.Fatalf("Decode(%v) is %v, %d; want %v, %d", b, p, n, want, used)
	}
}

// encodes tells an error unless that is what Encode makes of a plan.
func encodes(t *testing.T, p [][]api.Op, want []byte) {
	t.Helper()
	if b, e := plan.Encode(p); e != api.OK || !bytes.Equal(b, want) {
		t.Fatalf("Encode(%v) is %v, %d; want %v", p, b, e, want)
	}
}

// right tells an error unless Right says so of a plan, and Encode answers ErrPlan and none of one that isn't.
func right(t *testing.T, p [][]api.Op, want bool) {
	t.Helper()
	if plan.Right(p) != want {
		t.Fatalf("Right(%v) is %v", p, !want)
	}
	b, e := plan.Encode(p)
	if want && (e != api.OK || len(b) == 0) || !want && (e != api.ErrPlan || len(b) != 0) {
		t.Fatalf("Encode(%v) is %v, %d", p, b, e)
	}
}

func TestTheChapter(t *testing.T) {
	b, p := []byte{0, 1, 1, 3, 200}, one(api.Op{Kind: api.OpSend, Ch: 3, V: 200})
	decodes(t, b, p, 5)
	encodes(t, p, b)
	if api.ErrPlan != 3 {
		t.Error("ErrPlan isn't that of the chapter")
	}
}

func TestRightOp(t *testing.T) {
	rows := caseRows()
	kinds := []int{0, 1, 2, 3, 4, 5, 6, 7, 8, 9, 10, 18, 255, 256, 257, 1<<16 + 2, 1<<32 + 1, 1<<32 + 9, -1, -2, -9, math.MinInt, math.MaxInt}
	// sees holds RightOp against the chapter's words.
	sees := func(o api.Op, row caseRow) {
		o.Cases = row.cases
		if want := mayBe(o, row); plan.RightOp(o) != want {
			t.Fatalf("RightOp(%v) is %v", o, !want)
		}
	}
	for _, kind := range kinds {
		for _, row := range rows {
			for _, other := range []bool{false, true} {
				sees(api.Op{Kind: kind, Else: other}, row)
			}
		}
		for _, ch := range numbers() {
			for _, n := range numbers() {
				for _, v := range numbers() {
					for _, row := range []caseRow{{nil, true}, {make([]api.Case, 6), true}, {make([]api.Case, 7), false}} {
						sees(api.Op{Kind: kind, Ch: ch, N: n, V: int64(v)}, row)
						sees(api.Op{Kind: kind, Ch: ch, N: n, V: int64(v), Else: true}, row)
					}
				}
			}
		}
	}
}

func TestRightOpOfEachNumber(t *testing.T) {
	none := caseRow{nil, true}
	for kind := -3; kind <= 12; kind++ {
		for ch := -12; ch <= 300; ch++ {
			for _, o := range []api.Op{{Kind: kind, Ch: ch}, {Kind: kind, N: ch}, {Kind: kind, V: int64(ch)}} {
				if want := mayBe(o, none); plan.RightOp(o) != want {
					t.Fatalf("RightOp(%v) is %v", o, !want)
				}
			}
		}
	}
	for ch := -12; ch <= 30; ch++ {
		for v := int64(-300); v <= 600; v++ {
			for _, send := range []bool{false, true} {
				o := api.Op{Kind: 9, Cases: []api.Case{{Send: send, Ch: ch, V: v}}}
				if want := within(int64(ch), 8) && (v == 0 || send && within(v, 255)); plan.RightOp(o) != want {
					t.Fatalf("RightOp(%v) is %v", o, !want)
				}
			}
		}
	}
}

func TestRight(t *testing.T) {
	right(t, nil, false)
	right(t, [][]api.Op{}, false)
	right(t, make([][]api.Op, 0, 4), false)
	recv := make([]api.Op, 600)
	for i := range recv {
		recv[i].Kind = 3
	}
	for gs := range 300 {
		right(t, make([][]api.Op, gs), gs >= 1 && gs <= 8)
	}
	for gs := 1; gs <= 9; gs++ {
		for ops := range 40 {
			for g := range gs {
				p := make([][]api.Op, gs)
				p[g] = recv[:ops]
				right(t, p, gs <= 8 && ops <= 16)
				for k := range p {
					p[k] = recv[:16]
				}
				p[g] = recv[:ops]
				right(t, p, gs <= 8 && ops <= 16)
			}
		}
	}
	for _, ops := range []int{256, 257, 272, 512, 600} {
		right(t, [][]api.Op{recv[:ops]}, false)
		right(t, [][]api.Op{nil, recv[:ops]}, false)
	}
}

func TestRightLooksAtEachOp(t *testing.T) {
	for gs := 1; gs <= 8; gs++ {
		for g := range gs {
			for i := range 16 {
				for _, wrong := range []api.Op{{}, {Kind: 10}, {Kind: 3, Ch: 9}, {Kind: 1, N: 5}, {Kind: 2, V: 256}, {Kind: 3, Else: true}, {Kind: 9, Cases: make([]api.Case, 7)}, {Kind: 9, Cases: []api.Case{{}, {V: 1}}}} {
					p := make([][]api.Op, gs)
					for k := range p {
						p[k] = slices.Repeat([]api.Op{{Kind: 3}}, 16)
					}
					right(t, p, true)
					p[g][i] = wrong
					right(t, p, false)
					p[g] = p[g][:i+1]
					right(t, p, false)
				}
			}
		}
	}
}

func TestRightIsOfEachRightOp(t *testing.T) {
	for kind := -1; kind <= 11; kind++ {
		for _, row := range caseRows() {
			o := api.Op{Kind: kind, Cases: row.cases}
			right(t, one(o), mayBe(o, row))
		}
		for _, x := range numbers() {
			for _, o := range []api.Op{{Kind: kind, Ch: x}, {Kind: kind, N: x}, {Kind: kind, V: int64(x)}, {Kind: kind, Else: x == 1}} {
				right(t, one(o), mayBe(o, caseRow{nil, true}))
			}
		}
	}
}

// otherOps are ops each of which is another one than all the others.
func otherOps() []api.Op {
	var ops []api.Op
	for _, base := range []api.Op{{}, {Kind: 9, Ch: 3, N: 2, V: 7, Else: true}} {
		rows := [][]api.Case{nil, {{}}, {{}, {}}, {{Send: true}}, {{Ch: 1}}, {{V: 1}}, {{V: 1 << 32}}, {{V: -1}}, {{Ch: 1 << 32}}, {{Ch: 1}, {Ch: 2}}, {{Ch: 2}, {Ch: 1}}, {{Ch: 2}}, {{Ch: 1}, {Ch: 2}, {Ch: 1}}, {{Ch: 1}, {Ch: 2}, {Ch: 1, Send: true}}, {{Ch: 1}, {Ch: 2}, {Ch: 1, V: 9}}, make([]api.Case, 100), make([]api.Case, 101)}
		for _, row := range rows {
			o := base
			o.Cases = row
			ops = append(ops, o)
		}
		for _, x := range []int{1, 4, 5, 8, 255, 256, 1 << 32, -1, math.MinInt, math.MaxInt} {
			a, b, c, d := base, base, base, base
			a.Kind, b.Ch, c.N, d.V = x, x, x, int64(x)
			ops = append(ops, a, b, c, d)
		}
		base.Else = !base.Else
		ops = append(ops, base)
	}
	return ops
}

func TestSameOp(t *testing.T) {
	ops, again := otherOps(), otherOps()
	for i, a := range ops {
		for k, b := range again {
			if plan.SameOp(a, b) != (i == k) || plan.SameOp(b, a) != (i == k) {
				t.Errorf("SameOp(%v, %v) is %v", a, b, i != k)
			}
		}
	}
	for _, none := range [][]api.Case{nil, {}, make([]api.Case, 0, 3), make([]api.Case, 3)[:0]} {
		if o := (api.Op{Kind: 9, Cases: none}); !plan.SameOp(o, api.Op{Kind: 9}) || !plan.SameOp(api.Op{Kind: 9}, o) {
			t.Error("no cases aren't no cases")
		}
	}
	// What stands in the spare room is none of its cases.
	row := []api.Case{{Ch: 1}, {Ch: 2}}
	if !plan.SameOp(api.Op{Cases: row[:1]}, api.Op{Cases: []api.Case{{Ch: 1}}}) {
		t.Error("spare room is looked at")
	}
}

// A field that an op hasn't counts as well.
func TestSameOpOfFieldsThatItHasnt(t *testing.T) {
	for kind := range 11 {
		o := api.Op{Kind: kind}
		for _, other := range []api.Op{{Kind: kind, Ch: 1}, {Kind: kind, N: 1}, {Kind: kind, V: 1}, {Kind: kind, Else: true}, {Kind: kind, Cases: []api.Case{{}}}} {
			if plan.SameOp(o, other) || plan.SameOp(other, o) {
				t.Errorf("%v is %v", o, other)
			}
		}
	}
}

func TestClone(t *testing.T) {
	d := draws{1}
	plans := [][][]api.Op{nil, {}, {nil}, {{}}, {nil, {}, nil}, {nil, {{}}, nil}, {otherOps()}, {otherOps(), nil, otherOps()}, make([][]api.Op, 300), {make([]api.Op, 300)}}
	for range 300 {
		plans = append(plans, d.plan())
	}
	for _, p := range plans {
		was := copyOf(p)
		c := plan.Clone(p)
		if !samePlan(c, was) {
			t.Fatalf("Clone(%v) is %v", p, c)
		}
		if !samePlan(p, was) {
			t.Fatalf("Clone changed %v to %v", was, p)
		}
	}
}

// scribble writes over all of a plan, spare room too.
func scribble(p [][]api.Op) {
	p = p[:cap(p)]
	for g, ops := range p {
		ops = ops[:cap(ops)]
		for i, o := range ops {
			cases := o.Cases[:cap(o.Cases)]
			for k := range cases {
				cases[k] = api.Case{Send: true, Ch: -9, V: -9}
			}
			ops[i] = api.Op{Kind: -9, Ch: -9, N: -9, V: -9, Else: true}
		}
		p[g] = nil
	}
}

// apart tells an error if what is put behind the lists of a plan is seen in another one of them.
func apart(t *testing.T, p [][]api.Op) {
	t.Helper()
	was := copyOf(p)
	for _, ops := range p {
		for _, o := range ops {
			_ = append(o.Cases, api.Case{Ch: -5}, api.Case{Ch: -6})
		}
		_ = append(ops, api.Op{Kind: -5}, api.Op{Kind: -6})
	}
	if !samePlan(p, was) {
		t.Fatalf("two lists of one answer share some: %v; was %v", p, was)
	}
}

// roomy answers a plan with spare room behind each of its lists, in which something stands.
func roomy(p [][]api.Op) [][]api.Op {
	more := make([][]api.Op, 0, len(p)+2)
	for _, ops := range p {
		list := make([]api.Op, 0, len(ops)+2)
		for _, o := range ops {
			cases := make([]api.Case, 0, len(o.Cases)+2)
			cases = append(cases, o.Cases...)
			_ = append(cases, api.Case{Ch: 70}, api.Case{Ch: 71})
			o.Cases = cases
			list = append(list, o)
		}
		_ = append(list, api.Op{Kind: 70}, api.Op{Kind: 71})
		more = append(more, list)
	}
	_ = append(more, []api.Op{{Kind: 72}}, []api.Op{{Kind: 73}})
	return more
}

// behind tells an error unless what roomy wrote into spare room stands there.
func behind(t *testing.T, p [][]api.Op) {
	t.Helper()
	ok := p[:cap(p)][len(p)][0].Kind == 72 && p[:cap(p)][len(p)+1][0].Kind == 73
	for _, ops := range p {
		ok = ok && ops[:cap(ops)][len(ops)].Kind == 70 && ops[:cap(ops)][len(ops)+1].Kind == 71
		for _, o := range ops {
			ok = ok && o.Cases[:cap(o.Cases)][len(o.Cases)].Ch == 70 && o.Cases[:cap(o.Cases)][len(o.Cases)+1].Ch == 71
		}
	}
	if !ok {
		t.Fatal("spare room was changed")
	}
}

// somePlans are a few plans, wrong ones too.
func somePlans() [][][]api.Op {
	d := draws{5}
	plans := [][][]api.Op{nil, {nil}, {nil, nil}, {{{Kind: 9}}}, {{{Kind: 9, Cases: []api.Case{{Ch: 1}}}, {Kind: 9}}, nil}, {otherOps()}, {{{}}}}
	for range 50 {
		plans = append(plans, d.plan())
	}
	return plans
}

func TestCloneSharesNone(t *testing.T) {
	for _, was := range somePlans() {
		p := roomy(was)
		c := plan.Clone(p)
		scribble(p)
		if !samePlan(c, was) {
			t.Fatalf("Clone keeps what it is given: %v; want %v", c, was)
		}
		p = roomy(was)
		c = plan.Clone(p)
		apart(t, c)
		scribble(c)
		if !samePlan(p, was) {
			t.Fatalf("Clone's answer shares some with what it is given: %v; want %v", p, was)
		}
		behind(t, p)
	}
}

func TestNothingIsChanged(t *testing.T) {
	for _, was := range somePlans() {
		p := roomy(was)
		for range 2 {
			plan.Right(p)
			plan.Encode(p)
			plan.Clone(p)
			for _, ops := range p {
				for _, o := range ops {
					plan.RightOp(o)
					plan.SameOp(o, ops[0])
				}
			}
			if !samePlan(p, was) {
				t.Fatalf("%v; was %v", p, was)
			}
			behind(t, p)
		}
	}
}

// zeros are that many ops of which all bytes are 0.
func zeros(n int) []api.Op {
	return slices.Repeat([]api.Op{{Kind: 1}}, n)
}

func TestDecodeOfEachByte(t *testing.T) {
	for x := range 256 {
		b := byte(x)
		decodes(t, []byte{b}, make([][]api.Op, x%8+1), 1)
		decodes(t, []byte{0, b}, [][]api.Op{zeros(x % 17)}, 2)
		decodes(t, []byte{2, 0, b}, [][]api.Op{nil, zeros(x % 17), nil}, 3)
		decodes(t, []byte{0, 1, b}, one(api.Op{Kind: x%9 + 1}), 3)
		decodes(t, []byte{0, 1, 0, b}, one(api.Op{Kind: 1, N: x % 5}), 4)
		for kind := 2; kind <= 8; kind++ {
			decodes(t, []byte{0, 1, byte(kind - 1), b}, one(api.Op{Kind: kind, Ch: x % 9}), 4)
		}
		for _, kind := range []int{2, 4} {
			decodes(t, []byte{0, 1, byte(kind - 1), 5, b}, one(api.Op{Kind: kind, Ch: 5, V: int64(x)}), 5)
		}
		decodes(t, []byte{0, 1, 8, b}, one(api.Op{Kind: 9, Cases: make([]api.Case, x%7)}), 4)
		decodes(t, []byte{0, 1, 8, 0, b}, one(api.Op{Kind: 9, Else: x%2 == 1}), 5)
		decodes(t, []byte{0, 1, 8, 1, 0, b}, one(api.Op{Kind: 9, Cases: []api.Case{{Send: x%2 == 1}}}), 6)
		decodes(t, []byte{0, 1, 8, 1, 0, 0, b}, one(api.Op{Kind: 9, Cases: []api.Case{{Ch: x % 9}}}), 7)
		decodes(t, []byte{0, 1, 8, 1, 0, 1, b}, one(api.Op{Kind: 9, Cases: []api.Case{{Send: true, Ch: x % 9}}}), 7)
		decodes(t, []byte{0, 1, 8, 1, 1, 1, 7, b}, one(api.Op{Kind: 9, Else: true, Cases: []api.Case{{Send: true, Ch: 7, V: int64(x)}}}), 8)
	}
}

func TestDecodeOfFewBytes(t *testing.T) {
	decodes(t, nil, [][]api.Op{nil}, 0)
	decodes(t, []byte{}, [][]api.Op{nil}, 0)
	decodes(t, []byte{0}, [][]api.Op{nil}, 1)
	decodes(t, []byte{0, 0}, [][]api.Op{nil}, 2)
	// What isn't asked for isn't used.
	decodes(t, []byte{0, 0, 0}, [][]api.Op{nil}, 2)
	decodes(t, []byte{0, 0, 255, 255, 255}, [][]api.Op{nil}, 2)
	decodes(t, []byte{8, 17, 255}, [][]api.Op{nil}, 2)
	decodes(t, []byte{7}, make([][]api.Op, 8), 1)
	decodes(t, []byte{7, 0, 0, 0, 0, 0, 0, 0, 0, 9}, make([][]api.Op, 8), 9)
	decodes(t, []byte{7, 0, 0, 0, 0, 0, 0, 0, 16}, append(make([][]api.Op, 7), zeros(16)), 9)
	decodes(t, []byte{0, 1, 2, 4, 9}, one(api.Op{Kind: 3, Ch: 4}), 4)
	// Each goroutine's ops stand behind how many they are, ahead of the next one.
	decodes(t, []byte{1, 2, 0, 3, 5, 4, 1, 6, 8, 77}, [][]api.Op{{{Kind: 1, N: 3}, {Kind: 6, Ch: 4}}, {{Kind: 7, Ch: 8}}}, 9)
	// A case that receives has no byte of a value.
	decodes(t, []byte{0, 2, 8, 2, 0, 0, 3, 1, 4, 5, 1, 6, 7}, [][]api.Op{{{Kind: 9, Cases: []api.Case{{Ch: 3}, {Send: true, Ch: 4, V: 5}}}, {Kind: 2, Ch: 6, V: 7}}}, 13)
}

func TestDecodeOfAllOneByte(t *testing.T) {
	for x := range 256 {
		b := bytes.Repeat([]byte{byte(x)}, 3000)
		p, n := plan.Decode(b)
		if n < 2 || n > 2697 || !plan.Right(p) || len(p) != x%8+1 {
			t.Fatalf("Decode of %d, again and again, is %v, %d", x, p, n)
		}
		if all := bytesOf(p, least); len(all) != n {
			t.Fatalf("Decode of %d, again and again: used is %d; want %d", x, n, len(all))
		}
		decodes(t, b[:n], p, n)
	}
}

func TestDecodeTakesRemainders(t *testing.T) {
	d := draws{2}
	for range 3000 {
		p := d.plan()
		b := bytesOf(p, d.some)
		decodes(t, b, p, len(b))
		decodes(t, append(b, 9, 255, 0, 7), p, len(b))
	}
}

func TestDecodeOfBytesThatEndEarly(t *testing.T) {
	d := draws{3}
	for range 60 {
		b := bytesOf(d.plan(), d.some)
		for n := range b {
			padded := append(slices.Clone(b[:n]), make([]byte, 3000)...)
			p, asked := plan.Decode(padded)
			if !plan.Right(p) || asked != len(bytesOf(p, least)) {
				t.Fatalf("Decode(%v) is %v, %d", padded[:n], p, asked)
			}
			// What stands in the spare room behind the end is none of the bytes.
			decodes(t, b[:n], p, min(n, asked))
		}
	}
}

func TestDecodeOfAnyBytes(t *testing.T) {
	d := draws{4}
	for range 20000 {
		b := make([]byte, d.draw(120))
		for i := range b {
			b[i] = byte(d.draw(256))
		}
		p, n := plan.Decode(b)
		if !plan.Right(p) {
			t.Fatalf("Decode(%v) is %v", b, p)
		}
		all := bytesOf(p, least)
		if n != min(len(b), len(all)) {
			t.Fatalf("Decode(%v): used is %d, though %d are asked for", b, n, len(all))
		}
		encodes(t, p, all)
	}
}

func TestDecodeChangesAndKeepsNothing(t *testing.T) {
	d := draws{6}
	for range 200 {
		p := d.plan()
		b := bytesOf(p, d.some)
		was := slices.Clone(b)
		q, _ := plan.Decode(b)
		if !bytes.Equal(b, was) {
			t.Fatalf("the bytes are %v; were %v", b, was)
		}
		clear(b)
		if !samePlan(q, p) {
			t.Fatalf("the plan is %v; want %v", q, p)
		}
		apart(t, q)
		scribble(q)
		decodes(t, was, p, len(was))
	}
}

func TestEncode(t *testing.T) {
	for _, c := range []struct {
		o api.Op
		b []byte
	}{
		{api.Op{Kind: 1}, []byte{0, 0}}, {api.Op{Kind: 1, N: 4}, []byte{0, 4}},
		{api.Op{Kind: 2}, []byte{1, 0, 0}}, {api.Op{Kind: 2, Ch: 8, V: 255}, []byte{1, 8, 255}},
		{api.Op{Kind: 3}, []byte{2, 0}}, {api.Op{Kind: 3, Ch: 8}, []byte{2, 8}},
		{api.Op{Kind: 4}, []byte{3, 0, 0}}, {api.Op{Kind: 4, Ch: 7, V: 128}, []byte{3, 7, 128}},
		{api.Op{Kind: 5, Ch: 1}, []byte{4, 1}}, {api.Op{Kind: 6, Ch: 2}, []byte{5, 2}}, {api.Op{Kind: 7, Ch: 3}, []byte{6, 3}}, {api.Op{Kind: 8, Ch: 4}, []byte{7, 4}},
		{api.Op{Kind: 9}, []byte{8, 0, 0}}, {api.Op{Kind: 9, Else: true}, []byte{8, 0, 1}},
		{api.Op{Kind: 9, Cases: []api.Case{{}}}, []byte{8, 1, 0, 0, 0}},
		{api.Op{Kind: 9, Cases: []api.Case{{Send: true}}}, []byte{8, 1, 0, 1, 0, 0}},
		{api.Op{Kind: 9, Else: true, Cases: []api.Case{{Send: true, Ch: 8, V: 255}, {Ch: 7}, {Send: true, Ch: 1, V: 2}, {}, {}, {Ch: 8}}}, []byte{8, 6, 1, 1, 8, 255, 0, 7, 1, 1, 2, 0, 0, 0, 0, 0, 8}},
	} {
		encodes(t, one(c.o), append([]byte{0, 1}, c.b...))
		encodes(t, [][]api.Op{nil, {c.o, c.o}, {c.o}}, slices.Concat([]byte{2, 0, 2}, c.b, c.b, []byte{1}, c.b))
	}
	for n := range 8 {
		// The bytes that are 0 at the end are there, too.
		encodes(t, make([][]api.Op, n+1), append([]byte{byte(n)}, make([]byte, n+1)...))
	}
}

func TestEncodeOfTheGreatestPlan(t *testing.T) {
	full := api.Op{Kind: 9, Else: true, Cases: slices.Repeat([]api.Case{{Send: true, Ch: 8, V: 255}}, 6)}
	p := slices.Repeat([][]api.Op{slices.Repeat([]api.Op{full}, 16)}, 8)
	b, e := plan.Encode(p)
	if e != api.OK || len(b) != 2697 || !bytes.Equal(b, bytesOf(p, least)) {
		t.Fatalf("%d bytes, %d", len(b), e)
	}
	decodes(t, b, p, 2697)
	decodes(t, append(b, b...), p, 2697)
}

func TestEncodeIsTheLeastThatDecodeMakesIt(t *testing.T) {
	d := draws{7}
	for round := range 400 {
		p := d.plan()
		want := bytesOf(p, least)
		encodes(t, p, want)
		decodes(t, want, p, len(want))
		if round >= 20 {
			continue
		}
		for i := range want {
			for x := range want[i] {
				b := slices.Clone(want)
				b[i] = x
				if q, _ := plan.Decode(b); samePlan(p, q) {
					t.Fatalf("Encode(%v): at %d %d does as well as %d", p, i, x, want[i])
				}
			}
		}
	}
}

func TestEncodeAnswersNewMemory(t *testing.T) {
	d := draws{8}
	for range 100 {
		p := d.plan()
		first, _ := plan.Encode(p)
		want := slices.Clone(first)
		first = first[:cap(first)]
		for i := range first {
			first[i] = 99
		}
		encodes(t, p, want)
		b, _ := plan.Encode(p)
		scribble(p)
		if !bytes.Equal(b, want) {
			t.Fatalf("Encode keeps what it is given: %v; want %v", b, want)
		}
	}
}
