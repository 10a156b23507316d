package orbit_test

import (
	"math"
	"testing"

	"swath/api"
	"swath/orbit"
)

func TestP2_3Distances(t *testing.T) {
	s, e := orbit.SquareAt(example(), 3, place(15, 6, 0))
	want(t, "example 3", s, e, span(9216, 10848), api.OK)
	d, e := orbit.DistanceAt(example(), 3, place(15, 6, 0))
	want(t, "example 3", d, e, span(96, 105), api.OK)
	s, e = orbit.SquareAt(example(), 3, place(15, 6, 99))
	want(t, "inside the box", s, e, span(0, 16+16+25), api.OK)
	d, e = orbit.DistanceAt(example(), 3, place(15, 6, 99))
	want(t, "inside the box", d, e, span(0, 8), api.OK)
	d, e = orbit.DistanceAt(still(0, 1, place(3, 4, 0)), 1, place(0, 0, 0))
	want(t, "a whole root", d, e, span(5, 5), api.OK)
	d, e = orbit.DistanceAt(still(0, 1, place(1, 1, 0)), 1, place(0, 0, 0))
	want(t, "a root that is not whole", d, e, span(1, 2), api.OK)
	d, e = orbit.DistanceAt(still(0, 1, place(1, 1, 0)), 1, place(1, 1, 0))
	want(t, "no distance", d, e, span(0, 0), api.OK)
}

func TestP2_3AsDefined(t *testing.T) {
	r := numbers{3}
	great := greatOrbit()
	check := func(o api.Orbit, tick int, p api.Place) {
		t.Helper()
		right := rightSquares(rightBox(o, tick), p)
		s, e := orbit.SquareAt(o, tick, p)
		want(t, "SquareAt", s, e, right, api.OK)
		d, e := orbit.DistanceAt(o, tick, p)
		want(t, "DistanceAt", d, e, span(rootDown(right.Lo), rootUp(right.Hi)), api.OK)
	}
	for _, o := range orbits() {
		for _, tick := range ticksOf(o) {
			check(o, tick, r.place(220))
		}
	}
	const far = api.MaxPlace
	for _, tick := range []int{0, 1, 10000, 19999, 20000} {
		check(great, tick, place(far, far, far))
		check(great, tick, place(-far, -far, far))
		check(great, tick, place(0, -1, 1))
	}
}

// Roots of squares too large for floats.
func TestP2_3GreatRoots(t *testing.T) {
	const far = api.MaxPlace
	d, e := orbit.DistanceAt(still(0, 1, place(far, 0, 0)), 0, place(-far, 0, 0))
	want(t, "a whole root", d, e, span(2*far, 2*far), api.OK)
	d, e = orbit.DistanceAt(still(0, 1, place(far, 1, 0)), 0, place(-far, 0, 0))
	want(t, "a little more", d, e, span(2*far, 2*far+1), api.OK)
	d, e = orbit.DistanceAt(still(0, 1, place(far, far, far)), 0, place(-far, -far, -far))
	want(t, "the greatest distance", d, e, span(346410161, 346410162), api.OK)
}

func TestP2_3Errors(t *testing.T) {
	for what, x := range wrongOrbits() {
		s, e := orbit.SquareAt(x.o, -1, wrongPlaces()[0])
		want(t, what, s, e, api.Range{}, x.e)
		d, e := orbit.DistanceAt(x.o, -1, wrongPlaces()[0])
		want(t, what, d, e, api.Range{}, x.e)
	}
	for _, tick := range []int{-1, 11, math.MinInt, math.MaxInt} {
		s, e := orbit.SquareAt(example(), tick, place(0, 0, 0))
		want(t, "SquareAt at no tick", s, e, api.Range{}, api.ErrRange)
		d, e := orbit.DistanceAt(example(), tick, place(0, 0, 0))
		want(t, "DistanceAt at no tick", d, e, api.Range{}, api.ErrRange)
	}
	for _, p := range wrongPlaces() {
		s, e := orbit.SquareAt(example(), 0, p)
		want(t, "SquareAt of no place", s, e, api.Range{}, api.ErrRange)
		d, e := orbit.DistanceAt(example(), 0, p)
		want(t, "DistanceAt of no place", d, e, api.Range{}, api.ErrRange)
	}
}

func TestP2_4Nearest(t *testing.T) {
	tick, square, e := orbit.Nearest(example(), place(30, 12, 0))
	want(t, "example 4", [2]int{tick, square}, e, [2]int{6, 10000}, api.OK)
	tick, square, e = orbit.Nearest(still(5, 9, place(1, 2, 3)), place(0, 0, 0))
	want(t, "all ticks alike", [2]int{tick, square}, e, [2]int{5, 14}, api.OK)
	// The line passes X = 2 at 6, but its rounded places are 2 from 5 on.
	tick, square, e = orbit.Nearest(orbitOf(0, at(0, 0, 0, 0, 0), at(9, 3, 0, 0, 0)), place(2, 0, 0))
	want(t, "rounded places", [2]int{tick, square}, e, [2]int{5, 0}, api.OK)
	tick, square, e = orbit.Nearest(example(), place(-100000000, 0, 100))
	want(t, "the first tick", [2]int{tick, square}, e, [2]int{0, 10000000000000000}, api.OK)
	tick, square, e = orbit.Nearest(example(), place(100, 40, 100))
	want(t, "the last tick", [2]int{tick, square}, e, [2]int{10, 2900}, api.OK)
}

func TestP2_4MayBeNearest(t *testing.T) {
	may, witness, e := orbit.MayBeNearest(still(5, 9, place(1, 2, 3)), place(0, 0, 0))
	want(t, "all ticks alike", may, e, span(5, 9), api.OK)
	want(t, "all ticks alike", witness, e, 5, api.OK)
	// The greatest squares are 100, 4, 25 and 4, the least ones 100, 4, 25 and 0.
	o := orbitOf(0, at(0, 10, 0, 0, 0), at(1, 2, 0, 0, 0), at(2, 5, 0, 0, 0), at(3, 1, 0, 0, 0))
	may, witness, e = orbit.MayBeNearest(o, place(0, 0, 0))
	want(t, "without errors", may, e, span(3, 3), api.OK)
	want(t, "without errors", witness, e, 3, api.OK)
	// The squares: at 1 from 0 to 9 + 4 + 4, at 2 from 16 on, at 3 from 1 to 9 + 1 + 1.
	o = orbitOf(0, at(0, 10, 0, 0, 0), at(1, 1, 0, 0, 2), at(2, 5, 0, 0, 1), at(3, 2, 0, 0, 1))
	may, witness, e = orbit.MayBeNearest(o, place(0, 0, 0))
	want(t, "a gap", may, e, span(1, 3), api.OK)
	want(t, "a gap", witness, e, 3, api.OK)
}

func TestP2_4CheckNearest(t *testing.T) {
	o := orbitOf(0, at(0, 10, 0, 0, 0), at(1, 2, 0, 0, 0), at(2, 5, 0, 0, 0), at(3, 2, 0, 0, 0), at(4, 6, 0, 0, 0))
	for _, x := range []struct {
		lo, hi, witness, n int
		e                  api.Errno
	}{
		{1, 3, 1, 3, api.OK},
		{1, 3, 3, 3, api.OK},
		{0, 4, 0, 5, api.OK},
		{1, 4, 2, 4, api.OK},
		{1, 4, 4, 4, api.OK},
		{0, 3, 3, 4, api.OK},
		{1, 3, 2, 3, api.OK},
		{1, 3, 4, 0, api.ErrProof}, // the tick 4 is as near as the witness
		{1, 1, 1, 0, api.ErrProof}, // so is the tick 3
		{3, 3, 3, 0, api.ErrProof},
		{2, 2, 2, 0, api.ErrProof},
		{1, 4, 0, 0, api.ErrProof},
		{3, 1, 1, 0, api.ErrOrder},
		{4, 3, 0, 0, api.ErrOrder},
		{-1, 3, 1, 0, api.ErrRange},
		{1, 5, 1, 0, api.ErrRange},
		{1, 3, 5, 0, api.ErrRange},
		{1, 3, -1, 0, api.ErrRange},
		{3, -1, 1, 0, api.ErrRange},
		{math.MinInt, math.MaxInt, 1, 0, api.ErrRange},
	} {
		n, e := orbit.CheckNearest(o, place(0, 0, 0), api.OrbitNearest{Ticks: span(x.lo, x.hi), Witness: x.witness})
		want(t, "CheckNearest", n, e, x.n, x.e)
	}
}

func TestP2_4Errors(t *testing.T) {
	nowhere := api.OrbitNearest{Ticks: span(-1, -2), Witness: -3}
	for what, x := range wrongOrbits() {
		a, b, e := orbit.Nearest(x.o, wrongPlaces()[0])
		want(t, what, [2]int{a, b}, e, [2]int{}, x.e)
		may, witness, e := orbit.MayBeNearest(x.o, wrongPlaces()[0])
		want(t, what, may, e, api.Range{}, x.e)
		want(t, what, witness, e, 0, x.e)
		n, e := orbit.CheckNearest(x.o, wrongPlaces()[0], nowhere)
		want(t, what, n, e, 0, x.e)
	}
	late := orbitOf(0, at(5, 0, 0, 0, 0), at(9, 1, 1, 1, 0))
	for _, p := range wrongPlaces() {
		a, b, e := orbit.Nearest(late, p)
		want(t, "Nearest to no place", [2]int{a, b}, e, [2]int{}, api.ErrRange)
		may, witness, e := orbit.MayBeNearest(late, p)
		want(t, "MayBeNearest to no place", may, e, api.Range{}, api.ErrRange)
		want(t, "MayBeNearest to no place", witness, e, 0, api.ErrRange)
		n, e := orbit.CheckNearest(late, p, api.OrbitNearest{Ticks: span(9, 5), Witness: 5})
		want(t, "CheckNearest of no place", n, e, 0, api.ErrRange)
	}
}

func TestP2_4AsDefined(t *testing.T) {
	r := numbers{4}
	for _, o := range orbits() {
		p := r.place(100)
		first, least := 0, math.MaxInt
		witness, bound := 0, math.MaxInt
		for _, tick := range ticksOf(o) {
			if s := squareOf(rightNominal(o, tick), p); s < least {
				first, least = tick, s
			}
			if s := rightSquares(rightBox(o, tick), p).Hi; s < bound {
				witness, bound = tick, s
			}
		}
		var may []int
		for _, tick := range ticksOf(o) {
			if rightSquares(rightBox(o, tick), p).Lo <= bound {
				may = append(may, tick)
			}
		}
		tick, square, e := orbit.Nearest(o, p)
		want(t, "Nearest", [2]int{tick, square}, e, [2]int{first, least}, api.OK)
		ticks, n, e := orbit.MayBeNearest(o, p)
		want(t, "MayBeNearest", ticks, e, span(may[0], may[len(may)-1]), api.OK)
		want(t, "its witness", n, e, witness, api.OK)
	}
}

// P2.9: MayBeNearest is accepted, Nearest lies in it, and no tick is nearest outside of ticks that are accepted.
func TestP2_9Nearest(t *testing.T) {
	r := numbers{9}
	for _, o := range orbits() {
		p := r.place(100)
		ticks, witness, _ := orbit.MayBeNearest(o, p)
		n, e := orbit.CheckNearest(o, p, api.OrbitNearest{Ticks: ticks, Witness: witness})
		want(t, "what MayBeNearest returns", n, e, ticks.Hi-ticks.Lo+1, api.OK)
		tick, _, _ := orbit.Nearest(o, p)
		if tick < ticks.Lo || tick > ticks.Hi {
			t.Error("Nearest", tick, "is not in", ticks)
		}
		all := ticksOf(o)
		for range 20 {
			x := api.OrbitNearest{Ticks: span(all[r.below(len(all))], all[r.below(len(all))]), Witness: all[r.below(len(all))]}
			if _, e := orbit.CheckNearest(o, p, x); e == api.OK {
				checkFlight(t, &r, o, p, x.Ticks)
			}
		}
		checkFlight(t, &r, o, p, ticks)
	}
}

// checkFlight puts the satellite somewhere in its boxes, and looks for the nearest tick.
func checkFlight(t *testing.T, r *numbers, o api.Orbit, p api.Place, ticks api.Range) {
	t.Helper()
	nearest, least := 0, math.MaxInt
	for _, tick := range ticksOf(o) {
		b, _ := orbit.BoxAt(o, tick)
		var c [3]int
		for i := range c {
			c[i] = b[i].Lo + r.below(b[i].Hi-b[i].Lo+1)
		}
		if s := squareOf(place(c[0], c[1], c[2]), p); s < least {
			nearest, least = tick, s
		}
	}
	if nearest < ticks.Lo || nearest > ticks.Hi {
		t.Error("the nearest tick", nearest, "is not in", ticks)
	}
}
