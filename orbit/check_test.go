package orbit_test

import (
	"math"
	"strconv"
	"testing"

	"swath/api"
	"swath/orbit"
)

func TestP2_1CheckOrbit(t *testing.T) {
	for _, o := range append(orbits(), greatOrbit()) {
		n, e := orbit.CheckOrbit(o)
		want(t, "a right orbit", n, e, 0, api.OK)
	}
	for what, x := range wrongOrbits() {
		n, e := orbit.CheckOrbit(x.o)
		want(t, what, n, e, x.n, x.e)
	}
}

func TestP2_1CheckOrbitAtLimits(t *testing.T) {
	const far, wrong = 100000000, 100000
	for _, name := range []string{"p", "Z", "abcdefghijkl", "a-", "a--9", "A1b2C3", "azAZ-09"} {
		o := example()
		o.Name = name
		n, e := orbit.CheckOrbit(o)
		want(t, name, n, e, 0, api.OK)
	}
	for _, c := range "@[`{/:._ ;\t\x00" {
		o := example()
		o.Name = "p" + string(c)
		n, e := orbit.CheckOrbit(o)
		want(t, o.Name, n, e, 0, api.ErrName)
	}
	for what, o := range map[string]api.Orbit{
		"the greatest bend": orbitOf(wrong, example().States...),
		"great places":      orbitOf(0, at(0, far, -far, far, wrong), at(1, -far, far, -far, 0)),
		"late ticks":        orbitOf(0, at(999980000, 0, 0, 0, 0), at(1000000000, 0, 0, 0, 0)),
		"one tick":          orbitOf(0, at(0, 0, 0, 0, 0), at(1, 0, 0, 0, 0)),
	} {
		n, e := orbit.CheckOrbit(o)
		want(t, what, n, e, 0, api.OK)
	}
	n, e := orbit.CheckOrbit(orbitOf(0, at(999979999, 0, 0, 0, 0), at(1000000000, 0, 0, 0, 0)))
	want(t, "a tick too late", n, e, 1, api.ErrLarge)
}

func TestP2_1FormatState(t *testing.T) {
	for right, s := range map[string]api.OrbitState{
		"0 0 0 100 1":           at(0, 0, 0, 100, 1),
		"10 50 20 100 3":        at(10, 50, 20, 100, 3),
		"-1 -20 300 -4000 -5":   at(-1, -20, 300, -4000, -5),
		"0 0 0 0 0":             {},
		"1 10000000000 0 0 0":   at(1, 10000000000, 0, 0, 0),
		"0 100000001 0 0 10000": at(0, 100000001, 0, 0, 10000),
		strconv.Itoa(math.MinInt) + " 0 0 0 " + strconv.Itoa(math.MaxInt): at(math.MinInt, 0, 0, 0, math.MaxInt),
	} {
		if s := orbit.FormatState(s); s != right {
			t.Errorf("FormatState: %q, want %q", s, right)
		}
	}
}

func TestP2_1ParseState(t *testing.T) {
	for s, right := range map[string]api.OrbitState{
		"0 0 0 100 1":     at(0, 0, 0, 100, 1),
		"10 50 -20 100 3": at(10, 50, -20, 100, 3),
		"1000000000 100000000 -100000000 -100000000 100000": at(1000000000, 100000000, -100000000, -100000000, 100000),
	} {
		got, e := orbit.ParseState(s)
		want(t, s, got, e, right, api.OK)
	}
	for _, s := range []string{"", " ", "0", "0 0 0 0", "0 0 0 0 0 0", "0 0 0 0 ", " 0 0 0 0 0", "0 0 0 0 0 ", "0  0 0 0 0", "0\t0 0 0 0",
		"0 0 0 0 0\n", "+0 0 0 0 0", "-0 0 0 0 0", "01 0 0 0 0", "-01 0 0 0 0", "0 0 0 0 x", "0 0 0 0 -", "0 --1 0 0 0", "0 1.0 0 0 0",
		"0 0x1 0 0 0", "0 1_0 0 0 0", "0 1e1 0 0 0", "12345678901 0 0 0 0", "-12345678901 0 0 0 0", "0000000000 0 0 0 0",
		"99999999999999999999 0 0 0 0", "0 0 0 0 \u0661", "0 0 0 0 \xff", "0 0 0 0 0;", "state 0 0 0 0 0", "-1 0 0 0 x"} {
		got, e := orbit.ParseState(s)
		want(t, strconv.Quote(s), got, e, api.OrbitState{}, api.ErrSyntax)
	}
	for _, s := range []string{"-1 0 0 0 0", "1000000001 0 0 0 0", "9999999999 0 0 0 0", "-9999999999 0 0 0 0", "0 100000001 0 0 0", "0 0 -100000001 0 0",
		"0 0 0 100000001 0", "0 0 0 0 -1", "0 0 0 0 100001"} {
		got, e := orbit.ParseState(s)
		want(t, s, got, e, api.OrbitState{}, api.ErrRange)
	}
}
