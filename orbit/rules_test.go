package orbit_test

import (
	"math"
	"reflect"
	"slices"
	"testing"

	"swath/api"
	"swath/orbit"
)

// oddOrbits returns orbits of which most are wrong.
func oddOrbits() []api.Orbit {
	const least, most = math.MinInt, math.MaxInt
	out := []api.Orbit{
		example(), greatOrbit(), still(0, 1, place(0, 0, 0)), {Name: "p"},
		orbitOf(most, at(least, least, least, least, least), at(most, most, most, most, most)),
		orbitOf(0, at(0, 0, 0, 0, 0), at(most, least, most, least, most)),
		orbitOf(least, at(most, most, most, most, most), at(least, least, least, least, least)),
		orbitOf(0, make([]api.OrbitState, 5000)...),
	}
	for _, x := range wrongOrbits() {
		out = append(out, x.o)
	}
	return out
}

func oddNumbers() []int {
	return []int{0, 1, -1, 10, 11, 20000, 100000000, -100000001, math.MaxInt, math.MinInt}
}

// P1 of the document: every function terminates and does not panic, and beside an error all is zero.
func TestP1NoPanic(t *testing.T) {
	for _, o := range oddOrbits() {
		orbit.CheckOrbit(o)
		s, e := orbit.Print(o)
		zeroBeside(t, "Print", e, s)
		for _, n := range oddNumbers() {
			p := place(n, -n, n)
			b, e := orbit.BoxAt(o, n)
			zeroBeside(t, "BoxAt", e, b)
			q, e := orbit.Nominal(o, n)
			zeroBeside(t, "Nominal", e, q)
			v, e := orbit.SpeedOf(o, n)
			zeroBeside(t, "SpeedOf", e, v)
			c, e := orbit.Corrected(o, n, api.OrbitState{Tick: n, At: p, Error: n})
			zeroBeside(t, "Corrected", e, c)
			c, e = orbit.Without(o, n)
			zeroBeside(t, "Without", e, c)
			a, d, e := orbit.Nearest(o, p)
			zeroBeside(t, "Nearest", e, a, d)
			may, a, e := orbit.MayBeNearest(o, p)
			zeroBeside(t, "MayBeNearest", e, may, a)
			oddPairs(t, o, n, p)
		}
	}
}

// oddPairs calls the functions of two odd arguments.
func oddPairs(t *testing.T, o api.Orbit, n int, p api.Place) {
	for _, m := range oddNumbers() {
		q := place(m, p.Y, p.Z)
		s, e := orbit.SquareAt(o, m, p)
		zeroBeside(t, "SquareAt", e, s)
		s, e = orbit.DistanceAt(o, m, p)
		zeroBeside(t, "DistanceAt", e, s)
		side, e := orbit.SideOf(o, m, p)
		zeroBeside(t, "SideOf", e, side)
		k, e := orbit.CheckNearest(o, q, api.OrbitNearest{Ticks: span(n, m), Witness: n})
		zeroBeside(t, "CheckNearest", e, k)
		l, e := orbit.Passes(o, q, m)
		zeroBeside(t, "Passes", e, l)
	}
	for _, b := range oddOrbits() {
		base, e := orbit.Baseline(o, b, api.OrbitBase{First: n, Second: n, Place: p})
		zeroBeside(t, "Baseline", e, base)
		k, e := orbit.Agree(o, b, n)
		zeroBeside(t, "Agree", e, k)
		if n == 0 {
			l, e := orbit.Touched(o, b)
			zeroBeside(t, "Touched", e, l)
		}
	}
}

// P1 of the document, for the functions of texts.
func TestP1NoPanicOfTexts(t *testing.T) {
	whole := head + two
	for i := range len(whole) {
		for _, s := range []string{whole[:i], whole[i:], whole[:i] + "\x00" + whole[i:], whole[:i] + "9" + whole[i+1:], whole[:i] + "-" + whole[i:], whole[:i] + "\n" + whole[i:], whole[:i] + ";" + whole[i:]} {
			o, mark, e := orbit.Parse(s)
			zeroBeside(t, "Parse", e, o)
			if (mark == api.TextMark{}) != (e == api.OK) {
				t.Errorf("Parse of %q: the mark %v beside %d", s, mark, e)
			}
			state, e := orbit.ParseState(s)
			zeroBeside(t, "ParseState", e, state)
		}
	}
	for _, n := range oddNumbers() {
		orbit.FormatState(at(n, -n, n, -n, n))
	}
}

// R3: nothing is written into an argument, and results share no memory with them.
func TestR3ArgumentsStay(t *testing.T) {
	r := numbers{13}
	o, b := r.orbit(6, 100, 4), r.orbit(5, 100, 4)
	keptO, keptB := slices.Clone(o.States), slices.Clone(b.States)
	p := place(1, 2, 3)
	for k := range o.States {
		c, e := orbit.Corrected(o, k, o.States[k])
		d, g := orbit.Without(o, k)
		if e != api.OK || g != api.OK {
			t.Fatal("Corrected, Without:", e, g)
		}
		clear(c.States)
		clear(d.States)
		clear(d.States[:cap(d.States)])
	}
	orbit.CheckOrbit(o)
	orbit.Nearest(o, p)
	orbit.MayBeNearest(o, p)
	orbit.CheckNearest(o, p, api.OrbitNearest{})
	orbit.Passes(o, p, 100)
	orbit.Touched(o, b)
	orbit.Print(o)
	if !reflect.DeepEqual(o.States, keptO) || !reflect.DeepEqual(b.States, keptB) {
		t.Error("an argument is changed")
	}
}
