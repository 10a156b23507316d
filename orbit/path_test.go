package orbit_test

import (
	"math"
	"testing"

	"swath/api"
	"swath/orbit"
)

func TestP2_2NominalAndBoxAt(t *testing.T) {
	p, e := orbit.Nominal(example(), 3)
	want(t, "example 1", p, e, place(15, 6, 100), api.OK)
	b, e := orbit.BoxAt(example(), 3)
	want(t, "example 1", b, e, [3]api.Range{span(11, 19), span(2, 10), span(96, 104)}, api.OK)
	b, e = orbit.BoxAt(example(), 0)
	want(t, "the first state", b, e, [3]api.Range{span(-1, 1), span(-1, 1), span(99, 101)}, api.OK)
	b, e = orbit.BoxAt(example(), 10)
	want(t, "the last state", b, e, [3]api.Range{span(47, 53), span(17, 23), span(97, 103)}, api.OK)
}

// Halves are rounded up, below 0 too; boxes are rounded outwards.
func TestP2_2Rounding(t *testing.T) {
	o := orbitOf(0, at(0, 0, 0, -4, 0), at(4, 2, -2, -3, 1), at(5, 7, 8, 9, 0))
	for tick, right := range []api.Place{place(0, 0, -4), place(1, 0, -4), place(1, -1, -3), place(2, -1, -3), place(2, -2, -3), place(7, 8, 9)} {
		p, e := orbit.Nominal(o, tick)
		want(t, "Nominal", p, e, right, api.OK)
	}
	b, e := orbit.BoxAt(o, 1)
	want(t, "between", b, e, [3]api.Range{span(0, 1), span(-1, 0), span(-4, -3)}, api.OK)
	b, e = orbit.BoxAt(o, 4)
	want(t, "the middle state", b, e, [3]api.Range{span(1, 3), span(-3, -1), span(-4, -2)}, api.OK)
	b, e = orbit.BoxAt(orbitOf(7, o.States...), 4)
	want(t, "the middle state of a bent orbit", b, e, [3]api.Range{span(1, 3), span(-3, -1), span(-4, -2)}, api.OK)
	b, e = orbit.BoxAt(orbitOf(7, o.States...), 1)
	want(t, "between, bent", b, e, [3]api.Range{span(-7, 8), span(-8, 7), span(-11, 4)}, api.OK)
}

func TestP2_2AsDefined(t *testing.T) {
	for _, o := range orbits() {
		for _, tick := range ticksOf(o) {
			p, e := orbit.Nominal(o, tick)
			want(t, "Nominal", p, e, rightNominal(o, tick), api.OK)
			b, e := orbit.BoxAt(o, tick)
			want(t, "BoxAt", b, e, rightBox(o, tick), api.OK)
		}
	}
	o := greatOrbit()
	for _, tick := range []int{0, 1, 9999, 19998, 19999, 20000} {
		p, e := orbit.Nominal(o, tick)
		want(t, "Nominal far away", p, e, rightNominal(o, tick), api.OK)
		b, e := orbit.BoxAt(o, tick)
		want(t, "BoxAt far away", b, e, rightBox(o, tick), api.OK)
	}
}

func TestP2_2Errors(t *testing.T) {
	o := orbitOf(0, at(5, 0, 0, 0, 0), at(9, 1, 1, 1, 0))
	for _, tick := range []int{4, 10, 0, -1, math.MinInt, math.MaxInt} {
		p, e := orbit.Nominal(o, tick)
		want(t, "Nominal at no tick", p, e, api.Place{}, api.ErrRange)
		b, e := orbit.BoxAt(o, tick)
		want(t, "BoxAt at no tick", b, e, [3]api.Range{}, api.ErrRange)
	}
	for what, x := range wrongOrbits() {
		p, e := orbit.Nominal(x.o, -1)
		want(t, what, p, e, api.Place{}, x.e)
		b, e := orbit.BoxAt(x.o, -1)
		want(t, what, b, e, [3]api.Range{}, x.e)
		v, e := orbit.SpeedOf(x.o, -1)
		want(t, what, v, e, [3]api.Frac{}, x.e)
		side, e := orbit.SideOf(x.o, -1, wrongPlaces()[0])
		want(t, what, side, e, 0, x.e)
	}
	for _, arc := range []int{-1, 1, 2, math.MinInt, math.MaxInt} {
		v, e := orbit.SpeedOf(example(), arc)
		want(t, "SpeedOf no arc", v, e, [3]api.Frac{}, api.ErrMissing)
		side, e := orbit.SideOf(example(), arc, wrongPlaces()[0])
		want(t, "SideOf no arc", side, e, 0, api.ErrMissing)
	}
	for _, p := range wrongPlaces() {
		side, e := orbit.SideOf(example(), 0, p)
		want(t, "SideOf no place", side, e, 0, api.ErrRange)
	}
}

func TestP2_2SpeedOf(t *testing.T) {
	v, e := orbit.SpeedOf(example(), 0)
	want(t, "example 2", v, e, [3]api.Frac{{Num: 5, Den: 1}, {Num: 2, Den: 1}, {Num: 0, Den: 1}}, api.OK)
	o := orbitOf(0, at(0, 0, 0, 0, 0), at(6, 4, -9, 0, 0), at(7, 4, -10, 5, 0))
	v, e = orbit.SpeedOf(o, 0)
	want(t, "lowest terms", v, e, [3]api.Frac{{Num: 2, Den: 3}, {Num: -3, Den: 2}, {Num: 0, Den: 1}}, api.OK)
	v, e = orbit.SpeedOf(o, 1)
	want(t, "the second arc", v, e, [3]api.Frac{{Num: 0, Den: 1}, {Num: -1, Den: 1}, {Num: 5, Den: 1}}, api.OK)
	v, e = orbit.SpeedOf(greatOrbit(), 1)
	want(t, "a fast arc", v, e, [3]api.Frac{{Num: -200000000, Den: 1}, {Num: 0, Den: 1}, {Num: -200000000, Den: 1}}, api.OK)
	v, e = orbit.SpeedOf(still(0, 20000, place(7, 8, 9)), 0)
	want(t, "an orbit that stands still", v, e, [3]api.Frac{{Num: 0, Den: 1}, {Num: 0, Den: 1}, {Num: 0, Den: 1}}, api.OK)
}

func TestP2_2SideOf(t *testing.T) {
	side := func(what string, o api.Orbit, arc int, p api.Place, right int) {
		t.Helper()
		n, e := orbit.SideOf(o, arc, p)
		want(t, what, n, e, right, api.OK)
	}
	side("example 2", example(), 0, place(0, 10, 0), api.SideLeft)
	side("example 2", example(), 0, place(0, -1, 0), api.SideRight)
	side("example 2", example(), 0, place(5, 2, 9), api.SideUnder)
	side("behind the arc", example(), 0, place(500, 200, -9), api.SideUnder)
	side("ahead of the arc", example(), 0, place(-5, -2, 0), api.SideUnder)
	side("standing still", still(0, 3, place(1, 1, 1)), 0, place(9, 9, 9), api.SideUnder)
	side("straight up", orbitOf(0, at(0, 1, 1, 1, 0), at(1, 1, 1, 99, 0)), 0, place(9, 9, 9), api.SideUnder)
	o := orbitOf(0, at(0, 10, 10, 0, 0), at(1, 20, 10, 0, 0), at(2, 20, 0, 0, 0))
	side("to the east", o, 0, place(0, 11, 0), api.SideLeft)
	side("to the south", o, 1, place(21, 0, 0), api.SideLeft)
	side("to the south", o, 1, place(19, 0, 0), api.SideRight)
	const far = api.MaxPlace
	side("far away", greatOrbit(), 0, place(-far, far, 0), api.SideLeft)
	side("far away", greatOrbit(), 0, place(far, -far, 0), api.SideRight)
	side("far away", greatOrbit(), 0, place(far, far-1, 0), api.SideRight)
	side("far away", greatOrbit(), 0, place(far, far, -far), api.SideUnder)
}

// P2.8: the nominal place lies in the box, greater errors or bends never make a box smaller.
func TestP2_8Boxes(t *testing.T) {
	inside := func(a, b [3]api.Range) bool {
		for i := range a {
			if a[i].Lo < b[i].Lo || a[i].Hi > b[i].Hi {
				return false
			}
		}
		return true
	}
	r := numbers{8}
	for _, o := range orbits() {
		bent := orbitOf(o.Bend+1+r.below(3), o.States...)
		worse := orbitOf(o.Bend)
		for _, s := range o.States {
			s.Error += r.below(4)
			worse.States = append(worse.States, s)
		}
		from := r.place(200)
		for _, tick := range ticksOf(o) {
			p, _ := orbit.Nominal(o, tick)
			b, _ := orbit.BoxAt(o, tick)
			if !inside([3]api.Range{span(p.X, p.X), span(p.Y, p.Y), span(p.Z, p.Z)}, b) {
				t.Fatal("the nominal place", p, "is not in", b)
			}
			c, _ := orbit.BoxAt(bent, tick)
			d, _ := orbit.BoxAt(worse, tick)
			if !inside(b, c) || !inside(b, d) {
				t.Fatal("a box is smaller:", b, c, d)
			}
			distance, _ := orbit.DistanceAt(o, tick, from)
			square := squareOf(p, from)
			if rootDown(square) < distance.Lo || rootUp(square) > distance.Hi {
				t.Fatal("the distance to the nominal place is not in", distance)
			}
		}
	}
}
