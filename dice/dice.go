// Package dice is layer 1: numbers that are drawn from a list. See shared/doc/01-dice.md.
package dice

// Dice is numbers that are drawn from a list, and how many of them were.
type Dice struct {
	numbers []uint16
	drawn   int
}

// New: none is drawn.
func New(l []uint16) *Dice {
	// A list of its own: l may be written over behind the call.
	numbers := make([]uint16, len(l))
	copy(numbers, l)
	return &Dice{numbers: numbers}
}

// Draw: the next number's remainder by n.
func (d *Dice) Draw(n int) int {
	if n < 1 || d.Left() == 0 {
		return 0
	}
	v := int(d.numbers[d.drawn])
	d.drawn++
	return v % n
}

// Drawn: how many were drawn.
func (d *Dice) Drawn() int { return d.drawn }

// Left: how many are left.
func (d *Dice) Left() int { return len(d.numbers) - d.drawn }

// Skip: n more count as drawn, as far as there are so many.
func (d *Dice) Skip(n int) {
	// Cut ahead of adding, as drawn and n together may be above every int.
	d.drawn += min(max(n, 0), d.Left())
}
