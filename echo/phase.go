package echo

import (
	"math"

	"swath/api"
)

// lastDirection is the number of the direction of an eighth of a turn, in halves of a part.
const lastDirection = api.PhaseTurn / 8 * 2

// Direction returns the direction of m halves of a part.
func Direction(m int) ([2]int, api.Errno) {
	if m < 0 || m > lastDirection {
		return [2]int{}, api.ErrRange
	}
	if m == lastDirection {
		return diagonal(), api.OK
	}
	_, at := halve(func(half int, _ [2]int) bool { return half <= m })
	return at, api.OK
}

// PhaseOf returns the phase of a complex number, in parts of a turn.
func PhaseOf(z complex128) (int, api.Errno) {
	if e := checkSample(z, api.MaxSum); e != api.OK {
		return 0, e
	}
	if z == 0 {
		return 0, api.ErrVoid
	}
	return wrapped(phaseAt(int(real(z)), int(imag(z)))), api.OK
}

// phaseAt brings x + y i into the first eighth of a turn by mirrors.
func phaseAt(x, y int) int {
	switch {
	case y < 0:
		return -phaseAt(x, -y)
	case x < 0:
		return api.PhaseTurn/2 - phaseAt(-x, y)
	case y > x:
		return api.PhaseTurn/4 - phaseAt(y, x)
	}
	return (halvesAt(x, y) + 1) / 2
}

// halvesAt returns how many halves of a part x + y i is turned by, with 0 <= y <= x.
func halvesAt(x, y int) int {
	if x == y {
		return lastDirection
	}
	m, _ := halve(func(_ int, at [2]int) bool { return at[0]*y >= at[1]*x })
	return m
}

// halve narrows the numbers of directions down to two neighbours; reached tells of a half and its direction
// whether the first one of both numbers becomes it. It returns the first one of the neighbours, and its direction.
func halve(reached func(half int, at [2]int) bool) (int, [2]int) {
	first, second := 0, lastDirection
	firstAt, secondAt := [2]int{api.DirectionOne, 0}, diagonal()
	for second-first > 1 {
		half, at := (first+second)/2, between(firstAt, secondAt)
		if reached(half, at) {
			first, firstAt = half, at
		} else {
			second, secondAt = half, at
		}
	}
	return first, firstAt
}

func diagonal() [2]int {
	h := squareRoot(api.DirectionOne * api.DirectionOne / 2)
	return [2]int{h, h}
}

func between(a, b [2]int) [2]int {
	x, y := a[0]+b[0], a[1]+b[1]
	r := squareRoot(x*x + y*y)
	return [2]int{x * api.DirectionOne / r, y * api.DirectionOne / r}
}

// squareRoot is rounded down. The root of a float is exact enough: sums of squares of directions are below 2^52,
// and the root of such a number is never rounded up to a whole one.
func squareRoot(n int) int {
	return int(math.Sqrt(float64(n)))
}

// wrapped takes whole turns away, so that the phase is from -2048 to 2047.
func wrapped(phase int) int {
	turned := (phase + api.PhaseTurn/2) % api.PhaseTurn
	if turned < 0 {
		turned += api.PhaseTurn
	}
	return turned - api.PhaseTurn/2
}
