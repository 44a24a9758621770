// Package spot has places in the plane, as complex numbers: layer 2, see shared/doc/02-spot.md.
package spot

import (
	"cmp"
	"math"
	"slices"

	"jitney/api"
	"jitney/num"
)

// At is the spot of two numbers, and whether there is one.
func At(x, y int) (complex128, bool) {
	if !near(x) || !near(y) {
		return 0, false
	}
	return complex(float64(x), float64(y)), true
}

// Good tells whether a number is a spot.
func Good(c complex128) bool {
	return whole(real(c)) && whole(imag(c))
}

// XY is a spot's parts; 0, 0 of none.
func XY(c complex128) (x, y int) {
	if !Good(c) {
		return 0, 0
	}
	return int(real(c)), int(imag(c))
}

// Square is how far two spots are from each other, squared; 0, if one of them is none.
func Square(a, b complex128) int64 {
	if !Good(a) || !Good(b) {
		return 0
	}
	return square(b - a)
}

// Dist is how far two spots are from each other, rounded up; 0, if one of them is none.
func Dist(a, b complex128) int64 {
	return num.Root(Square(a, b))
}

// Turn is 1, if b lies to the left of the way from o to a, -1 to the right, 0 on its line, or if one of them is no spot.
func Turn(o, a, b complex128) int {
	if !Good(o) || !Good(a) || !Good(b) {
		return 0
	}
	return turn(a-o, b-o)
}

// Before tells whether a sweep round o, from the east to the left, comes to a ahead of b; false, if one of them is no spot.
func Before(o, a, b complex128) bool {
	return Good(o) && Good(a) && Good(b) && compare(a-o, b-o) < 0
}

// Sweep is the places of a list's spots, as a sweep round o comes to them; at last those of what is no spot, or of all, if o is none.
func Sweep(o complex128, list []complex128) []int {
	var spots, others []int
	for i, c := range list {
		if Good(o) && Good(c) {
			spots = append(spots, i)
		} else {
			others = append(others, i)
		}
	}
	slices.SortFunc(spots, func(i, j int) int {
		return cmp.Or(compare(list[i]-o, list[j]-o), cmp.Compare(i, j))
	})
	return append(spots, others...)
}

func near(n int) bool {
	return -api.MaxCoord <= n && n <= api.MaxCoord
}

func whole(part float64) bool {
	// Said so that what is no number is refused: it is on neither side of a bound.
	return -api.MaxCoord <= part && part <= api.MaxCoord && math.Trunc(part) == part
}

func conjugate(c complex128) complex128 {
	return complex(real(c), -imag(c))
}

func square(way complex128) int64 {
	return int64(real(way * conjugate(way)))
}

// turn is 1, if way b points to the left of way a, -1 to the right, 0 along its line.
func turn(a, b complex128) int {
	return cmp.Compare(imag(conjugate(a)*b), 0)
}

// compare holds two ways from the middle of a sweep against each other: below 0, if it comes to a first.
func compare(a, b complex128) int {
	// Within one half of the plane the sign of a turn orders the angles; between halves it doesn't.
	return cmp.Or(
		cmp.Compare(half(a), half(b)),
		-turn(a, b),
		cmp.Compare(square(a), square(b)),
	)
}

// half is 0 of no way at all, 1 of one that a sweep comes to in its first half turn (due east too), 2 of the others.
func half(way complex128) int {
	switch {
	case way == 0:
		return 0
	case imag(way) > 0 || imag(way) == 0 && real(way) > 0:
		return 1
	}
	return 2
}
