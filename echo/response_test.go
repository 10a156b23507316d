package echo_test

import (
	"math"
	"testing"

	"swath/api"
	"swath/echo"
)

func TestP1_5EnergyAt(t *testing.T) {
	f := field(2, 3, 4i, -3-4i, 1000000000-1000000000i)
	for i, right := range []int{9, 16, 25, 2000000000000000000} {
		n, e := echo.EnergyAt(f, i/2, i%2)
		want(t, "EnergyAt", n, e, right, api.OK)
	}
	n, e := echo.EnergyAt(field(1, 999999999+1i), 0, 0)
	want(t, "an energy that no float has", n, e, 999999998000000002, api.OK)
	for _, at := range [][2]int{{-1, 0}, {2, 0}, {0, -1}, {0, 2}, {math.MinInt, math.MaxInt}, {1, math.MaxInt}} {
		n, e := echo.EnergyAt(f, at[0], at[1])
		want(t, "EnergyAt beyond", n, e, 0, api.ErrRange)
	}
	for what, x := range wrongFields() {
		n, e := echo.EnergyAt(x.f, -1, -1)
		want(t, what, n, e, 0, x.e)
	}
}

func TestP1_5Peak(t *testing.T) {
	for what, x := range map[string]struct {
		f      api.RadarField
		at     [2]int
		energy int
	}{
		"one":                      {field(1, 0, 3, 0), [2]int{0, 1}, 9},
		"the first of equal ones":  {field(2, 0, 3-4i, 5, 5i), [2]int{0, 1}, 25},
		"a further line":           {field(3, 1, 2, 3, 2, -4i, 1), [2]int{2, 0}, 16},
		"the last one":             {field(2, 0, 0, 0, 0, 0, 1), [2]int{1, 2}, 1},
		"nothing but 0":            {field(2, 0, 0), [2]int{0, 0}, 0},
		"one more than a neighbor": {field(1, 1000000000, 1000000000+1i), [2]int{0, 1}, 1000000000000000001},
	} {
		at, n, e := echo.Peak(x.f)
		want(t, what, at, e, x.at, api.OK)
		want(t, what, n, e, x.energy, api.OK)
	}
	for what, x := range wrongFields() {
		at, n, e := echo.Peak(x.f)
		want(t, what, at, e, [2]int{}, x.e)
		want(t, what, n, e, 0, x.e)
	}
}

func TestP1_5Response(t *testing.T) {
	// 4 + 4 i has the energy 32, and 4 just the half of it.
	for what, x := range map[string]struct {
		f     api.RadarField
		line  int
		right api.EchoPoint
	}{
		"example 2":           {field(1, 0, 3, 0), 0, point(1, 9, 1, 1, 0, 2, 0)},
		"one sample":          {field(1, 2i), 0, point(0, 4, 0, 0, 0, 0, 0)},
		"half is enough":      {field(1, 0, 4, 4+4i, 4i, 3), 0, point(2, 32, 1, 3, 0, 4, 0)},
		"less than half":      {field(1, 4+1i, 3+2i, 4+4i, 3+3i, 3+2i), 0, point(2, 32, 2, 3, 1, 4, 17)},
		"half, but beyond":    {field(1, 4, 3, 4+4i, 4, 1, 4), 0, point(2, 32, 2, 3, 1, 4, 16)},
		"equal energies":      {field(1, 1, 1, 2, 2, 1, 1), 0, point(2, 4, 2, 3, 1, 2, 4)},
		"equal at the left":   {field(1, 1, 1, 3, 1, 0), 0, point(2, 9, 2, 2, 1, 4, 1)},
		"two peaks":           {field(1, 5, 1, 5), 0, point(0, 25, 0, 0, 0, 1, 25)},
		"at the end":          {field(1, 2, 1, 2, 3), 0, point(3, 9, 3, 3, 1, 3, 4)},
		"half at the end":     {field(1, 4, 4, 4+4i), 0, point(2, 32, 0, 2, 1, 2, 16)},
		"the second line":     {field(2, 9, 9, 9, 0, 1, 2), 1, point(2, 4, 2, 2, 0, 2, 0)},
		"the first of three":  {field(3, 1, 2, 9, 9, 0, 0), 0, point(1, 4, 1, 1, 0, 1, 0)},
		"half of an odd one":  {field(1, 1, 2+1i, 1+1i), 0, point(1, 5, 1, 1, 0, 2, 0)},
		"the greatest":        {field(1, 1000000000+1000000000i, 1000000000), 0, point(0, 2000000000000000000, 0, 1, 0, 1, 0)},
		"a side of the sides": {field(1, 1, 5, 2, 3, 2, 4, 0, 1), 0, point(1, 25, 1, 1, 0, 2, 16)},
	} {
		p, e := echo.Response(x.f, x.line)
		want(t, what, p, e, x.right, api.OK)
	}
}

func point(peak, energy, halfLo, halfHi, lobeLo, lobeHi, side int) api.EchoPoint {
	return api.EchoPoint{
		Peak: peak, Energy: energy,
		Half: api.Range{Lo: halfLo, Hi: halfHi}, Lobe: api.Range{Lo: lobeLo, Hi: lobeHi},
		Side: side,
	}
}

func TestP1_5ResponseErrors(t *testing.T) {
	f := field(2, 0, 0, 1, 1)
	for _, line := range []int{-1, 2, math.MinInt, math.MaxInt} {
		p, e := echo.Response(f, line)
		want(t, "a line that is not there", p, e, api.EchoPoint{}, api.ErrRange)
	}
	p, e := echo.Response(f, 0)
	want(t, "a line of 0", p, e, api.EchoPoint{}, api.ErrNone)
	for what, x := range wrongFields() {
		p, e := echo.Response(x.f, -1)
		want(t, what, p, e, api.EchoPoint{}, x.e)
	}
}
