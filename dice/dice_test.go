package dice_test

import (
	"math"
	"slices"
	"testing"

	"handoff/dice"
)

// holds tells an error unless so many of the dice are drawn, and so many left.
func holds(t *testing.T, d *dice.Dice, drawn, left int) {
	t.Helper()
	if d.Drawn() != drawn || d.Left() != left {
		t.Errorf("Drawn %d, Left %d; want %d, %d", d.Drawn(), d.Left(), drawn, left)
	}
}

// draws tells an error unless Draw by n answers want.
func draws(t *testing.T, d *dice.Dice, n, want int) {
	t.Helper()
	if x := d.Draw(n); x != want {
		t.Errorf("Draw(%d) is %d; want %d", n, x, want)
	}
}

func TestNewDrawsNone(t *testing.T) {
	for _, n := range []int{0, 1, 2, 255, 256, 70000} {
		holds(t, dice.New(make([]uint16, n)), 0, n)
	}
}

func TestDrawIsTheNextRemainder(t *testing.T) {
	d := dice.New([]uint16{7, 9})
	draws(t, d, 5, 2)
	holds(t, d, 1, 1)
	draws(t, d, 5, 4)
	holds(t, d, 2, 0)
	draws(t, d, 5, 0)
	holds(t, d, 2, 0)
}

func TestDrawOfEachKindOfNumber(t *testing.T) {
	for _, c := range []struct {
		v       uint16
		n, want int
	}{
		{0, 1, 0}, {0, 7, 0}, {1, 1, 0}, {1, 2, 1}, {7, 7, 0}, {7, 8, 7}, {8, 7, 1},
		{32767, 32768, 32767}, {32768, 32768, 0}, {32768, 10, 8},
		{65535, 1, 0}, {65535, 2, 1}, {65535, 65535, 0}, {65535, 65536, 65535},
		{65535, math.MaxInt32, 65535}, {65535, 1 << 32, 65535}, {65535, math.MaxInt, 65535},
		// By 2^16 + 3 and 2^32 + 3, cut to 16 or to 32 bits, these would be remainders by 3.
		{65535, 1<<16 + 3, 65535}, {65534, 1<<32 + 3, 65534},
	} {
		d := dice.New([]uint16{c.v})
		draws(t, d, c.n, c.want)
		holds(t, d, 1, 0)
	}
}

func TestDrawByLessThanOneDrawsNothing(t *testing.T) {
	d := dice.New([]uint16{11, 13})
	for _, n := range []int{0, -1, -2, -65536, math.MinInt32, math.MinInt + 1, math.MinInt} {
		draws(t, d, n, 0)
		holds(t, d, 0, 2)
	}
	draws(t, d, 100, 11)
	draws(t, d, 0, 0)
	holds(t, d, 1, 1)
	draws(t, d, 100, 13)
	draws(t, d, 0, 0)
	draws(t, d, -1, 0)
	holds(t, d, 2, 0)
}

func TestDrawOfNoneLeft(t *testing.T) {
	d := dice.New([]uint16{11, 13})
	d.Skip(2)
	for _, n := range []int{1, 2, 100, math.MaxInt, 0, -1, math.MinInt} {
		draws(t, d, n, 0)
		holds(t, d, 2, 0)
	}
}

func TestSkip(t *testing.T) {
	l := []uint16{1, 2, 3, 4}
	for _, first := range []struct{ n, drawn int }{{0, 0}, {1, 1}, {3, 3}, {4, 4}} {
		for _, c := range []struct{ n, drawn int }{
			{math.MinInt, first.drawn}, {-4, first.drawn}, {-1, first.drawn}, {0, first.drawn},
			{1, min(first.drawn+1, 4)}, {2, min(first.drawn+2, 4)}, {4, 4}, {5, 4},
			{math.MaxInt32, 4}, {1 << 32, 4}, {math.MaxInt - 1, 4}, {math.MaxInt, 4},
		} {
			d := dice.New(l)
			d.Skip(first.n)
			holds(t, d, first.drawn, 4-first.drawn)
			d.Skip(c.n)
			holds(t, d, c.drawn, 4-c.drawn)
			want := 0
			if c.drawn < 4 {
				want = int(l[c.drawn])
			}
			draws(t, d, 100, want)
		}
	}
}

func TestSkipAndDrawInTurn(t *testing.T) {
	d := dice.New([]uint16{10, 20, 30, 40, 50})
	draws(t, d, 100, 10)
	d.Skip(1)
	holds(t, d, 2, 3)
	draws(t, d, 100, 30)
	d.Skip(-1)
	draws(t, d, 100, 40)
	d.Skip(9)
	holds(t, d, 5, 0)
	draws(t, d, 100, 0)
}

func TestEmptyAndNilList(t *testing.T) {
	for _, l := range [][]uint16{nil, {}, make([]uint16, 0, 8)} {
		d := dice.New(l)
		for _, n := range []int{math.MinInt, -1, 0, 1, 2, math.MaxInt} {
			holds(t, d, 0, 0)
			draws(t, d, n, 0)
			d.Skip(n)
		}
		holds(t, d, 0, 0)
	}
}

func TestSpareRoomIsNotDrawn(t *testing.T) {
	d := dice.New([]uint16{5, 6, 7, 8}[:2])
	holds(t, d, 0, 2)
	draws(t, d, 100, 5)
	draws(t, d, 100, 6)
	draws(t, d, 100, 0)
	holds(t, d, 2, 0)
}

func TestListIsNotChanged(t *testing.T) {
	row := []uint16{5, 6, 7, 8, 9, 10}
	was := slices.Clone(row)
	l := row[1:4]
	d := dice.New(l)
	d.Draw(3)
	d.Draw(0)
	d.Skip(1)
	d.Skip(-1)
	d.Draw(2)
	d.Draw(2)
	d.Skip(math.MaxInt)
	if !slices.Equal(row, was) || len(l) != 3 || cap(l) != 5 {
		t.Errorf("the list, with what stands around it, is %v; want %v", row, was)
	}
}

func TestListIsNotKept(t *testing.T) {
	l := []uint16{5, 6, 7}
	d := dice.New(l)
	l[0] = 90
	draws(t, d, 100, 5)
	clear(l)
	draws(t, d, 100, 6)
	_ = append(l[:2], 91)
	draws(t, d, 100, 7)
	holds(t, d, 3, 0)
}

func TestDiceOfOneListAreApart(t *testing.T) {
	l := []uint16{5, 6, 7}
	a, b := dice.New(l), dice.New(l)
	draws(t, a, 100, 5)
	a.Skip(1)
	holds(t, b, 0, 3)
	draws(t, b, 100, 5)
	draws(t, a, 100, 7)
	draws(t, b, 100, 6)
	holds(t, a, 3, 0)
	holds(t, b, 2, 1)
}

// mixed answers numbers that are unlike each other for the most part, the same ones in each run.
func mixed(n int) []uint16 {
	l := make([]uint16, n)
	x := uint32(1)
	for i := range l {
		x = x*1664525 + 1013904223
		l[i] = uint16(x >> 16)
	}
	return l
}

func TestAgainstRestOfTheList(t *testing.T) {
	l := mixed(500)
	d := dice.New(l)
	rest := l
	for i, c := range mixed(700) {
		n := int(c%50) - 5
		if i%10 == 0 {
			d.Skip(n / 8)
			rest = rest[min(max(n/8, 0), len(rest)):]
		} else {
			want := 0
			if n > 0 && len(rest) > 0 {
				want = int(rest[0]) % n
				rest = rest[1:]
			}
			draws(t, d, n, want)
		}
		holds(t, d, len(l)-len(rest), len(rest))
	}
	if len(rest) != 0 {
		t.Error("the list wasn't drawn to its end")
	}
}
