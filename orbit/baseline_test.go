package orbit_test

import (
	"math"
	"math/big"
	"testing"

	"swath/api"
	"swath/orbit"
)

func TestP2_5Baseline(t *testing.T) {
	base := func(what string, to, from, seen api.Place, along, across api.Range) {
		t.Helper()
		got, e := orbit.Baseline(still(0, 1, from), still(5, 6, to), api.OrbitBase{First: 1, Second: 5, Place: seen})
		want(t, what, got, e, [2]api.Range{along, across}, api.OK)
	}
	got, e := orbit.Baseline(example(), still(0, 9, place(30, 0, 140)), api.OrbitBase{})
	want(t, "example 6", got, e, [2]api.Range{span(-40, -40), span(30, 30)}, api.OK)
	base("the same place", place(1, 2, 3), place(1, 2, 3), place(0, 0, 0), span(0, 0), span(0, 0))
	base("towards the place", place(3, 0, 0), place(0, 0, 0), place(9, 0, 0), span(3, 3), span(0, 0))
	base("away from the place", place(-3, 0, 0), place(0, 0, 0), place(9, 0, 0), span(-3, -3), span(0, 0))
	base("across", place(0, 3, 0), place(0, 0, 0), place(9, 0, 0), span(0, 0), span(3, 3))
	// s is (1, 1, 0), r and R are 1 and 2. D is 2: 1 to 2; b is 2: from 0, as 4 is more, to 1.
	base("a root between", place(1, 1, 0), place(0, 0, 0), place(1, 1, 0), span(1, 2), span(0, 1))
	// D is -5: -5 to -5 / 2, rounded up: -2; b is 25: 0 to the root of 25 - 4 = 21: 5.
	base("below 0", place(0, -5, 0), place(0, 0, 0), place(1, 1, 0), span(-5, -2), span(0, 5))
	// D is 1: from 1 / 2, rounded down: 0, to 1; b is 1: 0 to 1.
	base("from 0 on", place(1, 0, 0), place(0, 0, 0), place(1, 1, 0), span(0, 1), span(0, 1))
	base("up to 0", place(-1, 0, 0), place(0, 0, 0), place(1, 1, 0), span(-1, 0), span(0, 1))
	// s is (3, 0, 0), D is 7 * 3: 7 to 7; b is 49 + 4 + 1 = 54: the root of 5.
	base("rounded across", place(7, 2, 1), place(0, 0, 0), place(3, 0, 0), span(7, 7), span(2, 3))
	base("nominal places that are rounded", place(30, 0, 140), place(0, 0, 100), place(0, 0, 0), span(-40, -40), span(30, 30))
}

// rightBaseline is found from the definitions, number by number.
func rightBaseline(b, s api.Place) [2]api.Range {
	d := b.X*s.X + b.Y*s.Y + b.Z*s.Z
	square := squareOf(s, api.Place{})
	x, y := big.NewRat(int64(d), int64(rootDown(square))), big.NewRat(int64(d), int64(rootUp(square)))
	if x.Cmp(y) > 0 {
		x, y = y, x
	}
	along := span(down(x), up(y))
	greatest, least := 0, math.MaxInt
	for n := along.Lo; n <= along.Hi; n++ {
		size := max(n, -n)
		greatest, least = max(greatest, size), min(least, size)
	}
	length := squareOf(b, api.Place{})
	return [2]api.Range{along, span(rootDown(max(0, length-greatest*greatest)), rootUp(max(0, length-least*least)))}
}

func TestP2_5BaselineAsDefined(t *testing.T) {
	r := numbers{5}
	for i := range 4000 {
		size := []int{2, 9, 100, 40000}[i%4]
		a := r.orbit(2+r.below(4), size, 5)
		b := r.orbit(2+r.below(4), size, 5)
		x := api.OrbitBase{First: ticksOf(a)[r.below(len(ticksOf(a)))], Second: ticksOf(b)[r.below(len(ticksOf(b)))], Place: r.place(3 * size)}
		p, q := rightNominal(a, x.First), rightNominal(b, x.Second)
		if p == x.Place {
			continue
		}
		got, e := orbit.Baseline(a, b, x)
		want(t, "Baseline", got, e, rightBaseline(place(q.X-p.X, q.Y-p.Y, q.Z-p.Z), place(x.Place.X-p.X, x.Place.Y-p.Y, x.Place.Z-p.Z)), api.OK)
	}
	const far, most = api.MaxPlace, 1000000
	got, e := orbit.Baseline(still(0, 1, place(far, far, far)), still(0, 1, place(far-most, far-most, far-most)), api.OrbitBase{Place: place(-far, -far, -far)})
	want(t, "Baseline far away", got, e, rightBaseline(place(-most, -most, -most), place(-2*far, -2*far, -2*far)), api.OK)
}

func TestP2_5BaselineErrors(t *testing.T) {
	a, b := still(0, 1, place(0, 0, 0)), still(5, 6, place(0, 0, 0))
	wrong := api.OrbitBase{First: -1, Second: -1, Place: wrongPlaces()[0]}
	for what, x := range wrongOrbits() {
		got, e := orbit.Baseline(x.o, api.Orbit{}, wrong)
		want(t, what, got, e, [2]api.Range{}, x.e)
		got, e = orbit.Baseline(a, x.o, wrong)
		want(t, what+", the second one", got, e, [2]api.Range{}, x.e)
	}
	moved := func(x, y, z int) api.Orbit { return still(5, 6, place(x, y, z)) }
	for what, x := range map[string]struct {
		b api.Orbit
		x api.OrbitBase
		e api.Errno
	}{
		"a tick of the second orbit first": {b, api.OrbitBase{First: 5, Second: 5, Place: place(1, 0, 0)}, api.ErrRange},
		"a tick of the first orbit second": {b, api.OrbitBase{First: 1, Second: 1, Place: place(1, 0, 0)}, api.ErrRange},
		"a tick below":                     {b, api.OrbitBase{First: -1, Second: 5, Place: place(1, 0, 0)}, api.ErrRange},
		"a tick above":                     {b, api.OrbitBase{First: 0, Second: 7, Place: place(1, 0, 0)}, api.ErrRange},
		"a place ahead of a base":          {moved(1000001, 0, 0), api.OrbitBase{Second: 5, Place: wrongPlaces()[0]}, api.ErrRange},
		"a great X":                        {moved(1000001, 0, 0), api.OrbitBase{Second: 5, Place: place(1, 0, 0)}, api.ErrLarge},
		"a great Y below 0":                {moved(0, -1000001, 0), api.OrbitBase{Second: 5, Place: place(1, 0, 0)}, api.ErrLarge},
		"a great Z, and no sight":          {moved(0, 0, 1000001), api.OrbitBase{Second: 5}, api.ErrLarge},
		"no sight":                         {moved(0, 0, 1000000), api.OrbitBase{Second: 5}, api.ErrZero},
	} {
		got, e := orbit.Baseline(a, x.b, x.x)
		want(t, what, got, e, [2]api.Range{}, x.e)
	}
	for _, p := range wrongPlaces() {
		got, e := orbit.Baseline(a, b, api.OrbitBase{Second: 5, Place: p})
		want(t, "Baseline of no place", got, e, [2]api.Range{}, api.ErrRange)
	}
	got, e := orbit.Baseline(a, moved(-1000000, 1000000, 1000000), api.OrbitBase{Second: 5, Place: place(0, 0, 1)})
	want(t, "the greatest base", got, e, [2]api.Range{span(1000000, 1000000), span(1414213, 1414214)}, api.OK)
}

func TestP2_5Passes(t *testing.T) {
	passes := func(what string, o api.Orbit, p api.Place, most int, right ...api.Range) {
		t.Helper()
		got, e := orbit.Passes(o, p, most)
		want(t, what, got, e, right, api.OK)
	}
	passes("example 5", example(), place(30, 12, 0), 100, span(6, 6))
	passes("example 5", example(), place(30, 12, 0), 101, span(4, 8))
	passes("nothing", example(), place(30, 12, 0), 99)
	passes("everything", example(), place(30, 12, 0), 100000000, span(0, 10))
	passes("at the place", still(3, 5, place(1, 1, 1)), place(1, 1, 1), 0, span(3, 5))
	passes("beside the place", still(3, 5, place(1, 1, 1)), place(1, 1, 2), 0)
	passes("as far as may be", still(3, 5, place(0, 0, 0)), place(0, 0, 100000000), 100000000, span(3, 5))
	there := orbitOf(100, at(0, 0, 0, 0, 0), at(4, 4, 0, 0, 50), at(8, 0, 0, 0, 0), at(9, 9, 0, 0, 0), at(10, 0, 0, 0, 0))
	passes("there and back", there, place(0, 0, 0), 1, span(0, 1), span(7, 8), span(10, 10))
	for what, x := range wrongOrbits() {
		got, e := orbit.Passes(x.o, wrongPlaces()[0], -1)
		want(t, what, got, e, []api.Range(nil), x.e)
	}
	for _, p := range wrongPlaces() {
		got, e := orbit.Passes(example(), p, 1)
		want(t, "Passes of no place", got, e, []api.Range(nil), api.ErrRange)
	}
	for _, most := range []int{-1, 100000001, math.MinInt, math.MaxInt} {
		got, e := orbit.Passes(example(), place(0, 0, 0), most)
		want(t, "Passes of no distance", got, e, []api.Range(nil), api.ErrRange)
	}
}

func TestP2_5PassesAsDefined(t *testing.T) {
	r := numbers{55}
	for _, o := range orbits() {
		p, most := r.place(100), r.below(250)
		var right []api.Range
		for _, tick := range ticksOf(o) {
			if squareOf(rightNominal(o, tick), p) <= most*most {
				right = append(right, span(tick, tick))
			}
		}
		got, e := orbit.Passes(o, p, most)
		want(t, "Passes", got, e, joined(right), api.OK)
	}
}

// joined makes ranges of ascending ranges that touch each other.
func joined(l []api.Range) []api.Range {
	var out []api.Range
	for i, x := range l {
		if i > 0 && l[i-1].Hi+1 == x.Lo {
			out[len(out)-1].Hi = x.Hi
		} else {
			out = append(out, x)
		}
	}
	return out
}
