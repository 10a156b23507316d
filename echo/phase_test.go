package echo_test

import (
	"math"
	"math/big"
	"testing"

	"swath/api"
	"swath/echo"
)

// directionOf finds a direction from those at the odd number's both sides, which are known by fewer halvings.
func directionOf(m int) [2]int {
	switch m {
	case 0:
		return [2]int{16777216, 0}
	case 1024:
		return [2]int{11863283, 11863283}
	}
	step := m & -m
	a, b := directionOf(m-step), directionOf(m+step)
	x, y := a[0]+b[0], a[1]+b[1]
	r := int(new(big.Int).Sqrt(big.NewInt(int64(x*x + y*y))).Int64())
	return [2]int{x * 16777216 / r, y * 16777216 / r}
}

func TestP1_4Direction(t *testing.T) {
	for m := range 1025 {
		d, e := echo.Direction(m)
		want(t, "Direction", d, e, directionOf(m), api.OK)
		angle := math.Atan2(float64(d[1]), float64(d[0])) * 4096 / math.Pi
		if math.Abs(angle-float64(m)) > 0.01 {
			t.Errorf("Direction of %d has the angle %f", m, angle)
		}
	}
	for _, m := range []int{-1, 1025, math.MinInt, math.MaxInt} {
		d, e := echo.Direction(m)
		want(t, "Direction of a number out of range", d, e, [2]int{}, api.ErrRange)
	}
}

func TestP1_4Directions(t *testing.T) {
	for m, right := range map[int][2]int{0: {16777216, 0}, 1024: {11863283, 11863283}, 512: {15500126, 6420362}} {
		d, e := echo.Direction(m)
		want(t, "Direction", d, e, right, api.OK)
	}
}

func TestP1_4PhaseExamples(t *testing.T) {
	for z, right := range map[complex128]int{
		1: 0, 1 + 1i: 512, 1i: 1024, -1: -2048, -1i: -1024,
		-1 + 1i: 1536, -1 - 1i: -1536, 1 - 1i: -512, -7 - 7i: -1536,
		2 + 1i: 302, 2 - 1i: -302, -2 + 1i: 1746, 1 + 2i: 722, -2 - 1i: -1746, -1 + 2i: 1326, -1 - 2i: -1326, 1 - 2i: -722,
		100000000000: 0, 100000000000 + 100000000000i: 512, -100000000000 + 1i: -2048, -100000000000 - 1i: -2048,
		-100000000000i: -1024, 100000000000 + 1i: 0,
		complex(minusZero, 1): 1024, complex(1, minusZero): 0, complex(-1, minusZero): -2048, complex(minusZero, -1): -1024,
	} {
		n, e := echo.PhaseOf(z)
		want(t, "PhaseOf", n, e, right, api.OK)
	}
}

// A number on a direction is not before it, one a little below is.
func TestP1_4PhaseBounds(t *testing.T) {
	for m := 1; m < 1024; m++ {
		d, e := echo.Direction(m)
		if e != api.OK {
			t.Fatal("error", e)
		}
		x, y := 5000*d[0], 5000*d[1]
		n, e := echo.PhaseOf(complex(float64(x), float64(y)))
		want(t, "the phase of a direction", n, e, (m+1)/2, api.OK)
		n, e = echo.PhaseOf(complex(float64(x), float64(y-1)))
		want(t, "the phase below a direction", n, e, m/2, api.OK)
	}
}

func TestP1_4PhaseOfAngles(t *testing.T) {
	r := numbers{7}
	for range 5000 {
		x, y := float64(r.within(100000000000)), float64(r.within(1000000*(1+r.below(100000))))
		turned := math.Atan2(y, x) * 2048 / math.Pi
		if x == 0 && y == 0 || math.Abs(turned-math.Floor(turned)-0.5) < 0.001 {
			continue
		}
		right := int(math.Floor(turned + 0.5))
		if right == 2048 {
			right = -2048
		}
		n, e := echo.PhaseOf(complex(x, y))
		want(t, "PhaseOf", n, e, right, api.OK)
	}
}

func TestP1_4PhaseErrors(t *testing.T) {
	for _, z := range notWhole {
		n, e := echo.PhaseOf(z)
		want(t, "a part that is not whole", n, e, 0, api.ErrWhole)
	}
	for _, z := range []complex128{100000000001, -100000000001, 100000000001i, -100000000001i, 1e30, 1 - 1e30i} {
		n, e := echo.PhaseOf(z)
		want(t, "a great part", n, e, 0, api.ErrRange)
	}
	for _, z := range []complex128{0, complex(minusZero, 0), complex(0, minusZero), complex(minusZero, minusZero)} {
		n, e := echo.PhaseOf(z)
		want(t, "0", n, e, 0, api.ErrVoid)
	}
}

// P1.11: the conjugate, i times a number, and its double.
func TestP1_11Phases(t *testing.T) {
	r := numbers{8}
	for range 3000 {
		most := 2 + r.below(50000000)
		z := complex(float64(r.within(most)), float64(r.within(most)))
		if z == 0 {
			continue
		}
		n, e := echo.PhaseOf(z)
		want(t, "the double", n, e, phase(t, 2*z), api.OK)
		if n < -2048 || n > 2047 {
			t.Error("a phase that is not wrapped", n)
		}
		opposite, turned := -n, n+1024
		if n == -2048 {
			opposite = n
		}
		if turned > 2047 {
			turned -= 4096
		}
		want(t, "the conjugate", phase(t, complex(real(z), -imag(z))), api.OK, opposite, api.OK)
		want(t, "i times the number", phase(t, complex(-imag(z), real(z))), api.OK, turned, api.OK)
	}
}

// Of numbers on the axes and the diagonals the phase is a multiple of 512.
func TestP1_11Axes(t *testing.T) {
	for _, size := range []float64{1, 3, 16777217, 1e11} {
		for i, z := range []complex128{complex(-size, 0), complex(-size, -size), complex(0, -size), complex(size, -size), complex(size, 0), complex(size, size), complex(0, size), complex(-size, size)} {
			want(t, "an axis or a diagonal", phase(t, z), api.OK, 512*(i-4), api.OK)
		}
	}
}

func phase(t *testing.T, z complex128) int {
	t.Helper()
	n, e := echo.PhaseOf(z)
	if e != api.OK {
		t.Error("error", e, "of the phase of", z)
	}
	return n
}
