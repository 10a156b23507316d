package orbit_test

import (
	"math"
	"slices"
	"testing"

	"swath/api"
	"swath/orbit"
)

func TestP2_6Agree(t *testing.T) {
	agree := func(what string, a, b api.Orbit, tick, right int) {
		t.Helper()
		got, e := orbit.Agree(a, b, tick)
		want(t, what, got, e, right, api.OK)
		got, e = orbit.Agree(b, a, tick)
		want(t, what+", the other way", got, e, right, api.OK)
	}
	here := still(3, 9, place(1, 2, 3))
	around := func(x, y, z, wrong int) api.Orbit { return orbitOf(0, at(0, x, y, z, wrong), at(20, x, y, z, wrong)) }
	agree("the same place", here, around(1, 2, 3, 0), 4, api.AnswerYes)
	agree("the same box", around(1, 2, 3, 1), around(1, 2, 3, 1), 4, api.AnswerMaybe)
	agree("a place in a box", here, around(1, 2, 3, 1), 4, api.AnswerMaybe)
	agree("a place at the border", here, around(3, 4, 5, 2), 4, api.AnswerMaybe)
	agree("apart in X", here, around(4, 2, 3, 2), 4, api.AnswerNo)
	agree("apart in Y", here, around(1, -1, 3, 2), 4, api.AnswerNo)
	agree("apart in Z", here, around(1, 2, 6, 2), 4, api.AnswerNo)
	agree("beside each other", here, around(1, 2, 4, 0), 4, api.AnswerNo)
	agree("corners that meet", around(0, 0, 0, 5), around(10, 10, 10, 5), 0, api.AnswerMaybe)
	agree("corners that do not meet", around(0, 0, 0, 5), around(11, 10, 10, 5), 0, api.AnswerNo)
	agree("a line instead of a place", around(1, 2, 3, 0), orbitOf(0, at(0, 1, 2, 3, 0), at(2, 1, 2, 4, 0)), 1, api.AnswerMaybe)
	for bend, right := range []int{api.AnswerYes, api.AnswerMaybe} {
		o := orbitOf(bend, at(0, 0, 0, 0, 0), at(2, 4, 4, 4, 0), at(4, 5, 5, 5, 0))
		agree("itself at a state", o, o, 2, api.AnswerYes)
		agree("itself at a whole point", o, o, 1, right)
		agree("itself at a point that is not whole", o, o, 3, api.AnswerMaybe)
	}
	agree("itself with an error", example(), example(), 0, api.AnswerMaybe)
}

func TestP2_6AgreeErrors(t *testing.T) {
	for what, x := range wrongOrbits() {
		got, e := orbit.Agree(x.o, api.Orbit{}, -1)
		want(t, what, got, e, 0, x.e)
		got, e = orbit.Agree(example(), x.o, -1)
		want(t, what+", the second one", got, e, 0, x.e)
	}
	a, b := still(3, 9, place(0, 0, 0)), still(5, 12, place(0, 0, 0))
	for tick, right := range map[int]api.Errno{2: api.ErrRange, 3: api.ErrRange, 4: api.ErrRange, 5: api.OK, 9: api.OK, 10: api.ErrRange,
		12: api.ErrRange, 13: api.ErrRange, math.MinInt: api.ErrRange, math.MaxInt: api.ErrRange} {
		for _, l := range [][2]api.Orbit{{a, b}, {b, a}} {
			got, e := orbit.Agree(l[0], l[1], tick)
			answer := api.AnswerNo
			if right == api.OK {
				answer = api.AnswerYes
			}
			want(t, "Agree", got, e, answer, right)
		}
	}
}

func TestP2_6Corrected(t *testing.T) {
	o := orbitOf(2, at(10, 0, 0, 0, 1), at(20, 5, 5, 5, 2), at(30, 9, 9, 9, 3))
	for _, x := range []struct {
		state int
		s     api.OrbitState
		e     api.Errno
	}{
		{0, at(10, 1, 2, 3, 4), api.OK},
		{0, at(19, 1, 2, 3, 4), api.OK},
		{1, at(11, 1, 2, 3, 4), api.OK},
		{2, at(20010, 1, 2, 3, 4), api.OK},
		{2, at(20011, 1, 2, 3, 4), api.ErrLarge},
		{2, at(20, 1, 2, 3, 4), api.ErrOrder},
		{1, at(30, 1, 2, 3, 4), api.ErrOrder},
		{1, at(10, 1, 2, 3, 4), api.ErrOrder},
		{0, at(20, 1, 2, 3, 4), api.ErrOrder},
		{1, at(-1, 1, 2, 3, 4), api.ErrRange},
		{1, at(math.MinInt, 1, 2, 3, 4), api.ErrRange},
		{1, at(20, 1, 2, 100000001, 4), api.ErrRange},
		{1, at(20, 1, 2, 3, 100001), api.ErrRange},
		{-1, at(20, 1, 2, 3, -1), api.ErrMissing},
		{3, at(40, 1, 2, 3, 4), api.ErrMissing},
		{math.MinInt, at(20, 1, 2, 3, 4), api.ErrMissing},
		{math.MaxInt, at(20, 1, 2, 3, 4), api.ErrMissing},
	} {
		var right api.Orbit
		if x.e == api.OK {
			right = orbitOf(2, slices.Clone(o.States)...)
			right.States[x.state] = x.s
		}
		got, e := orbit.Corrected(o, x.state, x.s)
		want(t, "Corrected", got, e, right, x.e)
	}
	for what, x := range wrongOrbits() {
		got, e := orbit.Corrected(x.o, -1, at(-1, 0, 0, 0, 0))
		want(t, what, got, e, api.Orbit{}, x.e)
		got, e = orbit.Without(x.o, -1)
		want(t, what, got, e, api.Orbit{}, x.e)
	}
	// A first state that is earlier makes the last one too late, behind the others.
	late := orbitOf(0, at(10, 0, 0, 0, 0), at(11, 0, 0, 0, 0), at(20010, 0, 0, 0, 0))
	got, e := orbit.Corrected(late, 0, at(9, 0, 0, 0, 0))
	want(t, "an earlier first state", got, e, api.Orbit{}, api.ErrLarge)
}

func TestP2_6Without(t *testing.T) {
	s := []api.OrbitState{at(10, 0, 0, 0, 1), at(20, 5, 5, 5, 2), at(30, 9, 9, 9, 3)}
	for state, right := range [][]api.OrbitState{{s[1], s[2]}, {s[0], s[2]}, {s[0], s[1]}} {
		got, e := orbit.Without(orbitOf(2, s...), state)
		want(t, "Without", got, e, orbitOf(2, right...), api.OK)
	}
	for _, state := range []int{-1, 3, math.MinInt, math.MaxInt} {
		got, e := orbit.Without(orbitOf(2, s...), state)
		want(t, "Without no state", got, e, api.Orbit{}, api.ErrMissing)
	}
	for state, right := range map[int]api.Errno{0: api.ErrShape, 1: api.ErrShape, 2: api.ErrMissing} {
		got, e := orbit.Without(example(), state)
		want(t, "Without one of two states", got, e, api.Orbit{}, right)
	}
}

func TestP2_6Touched(t *testing.T) {
	touched := func(what string, a, b api.Orbit, right ...api.Range) {
		t.Helper()
		got, e := orbit.Touched(a, b)
		want(t, what, got, e, right, api.OK)
		got, e = orbit.Touched(b, a)
		want(t, what+", the other way", got, e, right, api.OK)
	}
	here := place(1, 2, 3)
	named := still(0, 9, here)
	named.Name = "q"
	touched("another name", still(0, 9, here), named)
	touched("another place", still(0, 9, here), still(0, 9, place(1, 2, 4)), span(0, 9))
	touched("longer", still(3, 9, here), still(0, 12, here), span(0, 2), span(10, 12))
	touched("later", still(3, 9, here), still(5, 12, here), span(3, 4), span(10, 12))
	touched("one after the other", still(0, 4, here), still(5, 9, here), span(0, 9))
	touched("apart", still(0, 4, here), still(6, 9, here), span(0, 4), span(6, 9))
	touched("far apart", still(0, 20000, here), still(999980000, 1000000000, here), span(0, 20000), span(999980000, 1000000000))
	touched("one tick in common", still(0, 4, here), still(4, 9, here), span(0, 3), span(5, 9))
	touched("another bend", still(0, 3, here), orbitOf(1, still(0, 3, here).States...), span(1, 2))
	touched("a state more", still(0, 4, here), orbitOf(0, at(0, 1, 2, 3, 0), at(2, 1, 2, 3, 0), at(4, 1, 2, 3, 0)))
	touched("a state more of a bent orbit", orbitOf(5, still(0, 4, here).States...), orbitOf(5, at(0, 1, 2, 3, 0), at(2, 1, 2, 3, 0), at(4, 1, 2, 3, 0)), span(2, 2))
	touched("an error", still(0, 4, here), orbitOf(0, at(0, 1, 2, 3, 0), at(2, 1, 2, 3, 1), at(3, 1, 2, 3, 0), at(4, 1, 2, 3, 0)), span(1, 2))
	for what, x := range wrongOrbits() {
		got, e := orbit.Touched(x.o, api.Orbit{})
		want(t, what, got, e, []api.Range(nil), x.e)
		got, e = orbit.Touched(example(), x.o)
		want(t, what+", the second one", got, e, []api.Range(nil), x.e)
	}
}

// P2.10: nothing touches an orbit and itself, Touched does not depend on the order, and is as defined.
func TestP2_10Touched(t *testing.T) {
	r := numbers{10}
	for _, a := range orbits() {
		got, e := orbit.Touched(a, a)
		want(t, "Touched of an orbit and itself", got, e, []api.Range(nil), api.OK)
		b := r.orbit(2+r.below(5), 3, 1)
		right := rightTouched(a, b)
		got, e = orbit.Touched(a, b)
		want(t, "Touched", got, e, right, api.OK)
		got, e = orbit.Touched(b, a)
		want(t, "Touched the other way", got, e, right, api.OK)
	}
}

func rightTouched(a, b api.Orbit) []api.Range {
	ticks := append(ticksOf(a), ticksOf(b)...)
	slices.Sort(ticks)
	var out []api.Range
	for _, tick := range slices.Compact(ticks) {
		if !slices.Contains(ticksOf(a), tick) || !slices.Contains(ticksOf(b), tick) || rightBox(a, tick) != rightBox(b, tick) {
			out = append(out, span(tick, tick))
		}
	}
	return joined(out)
}

// P2.10: a corrected state touches only ticks from the state before it to the one behind it.
func TestP2_10Corrected(t *testing.T) {
	r := numbers{11}
	for _, o := range orbits() {
		k := r.below(len(o.States))
		s := api.OrbitState{Tick: o.States[k].Tick, At: r.place(200), Error: r.below(9)}
		b, e := orbit.Corrected(o, k, s)
		if e != api.OK {
			t.Fatal("Corrected:", e)
		}
		before, behind := o.States[max(0, k-1)].Tick, o.States[min(len(o.States)-1, k+1)].Tick
		touched, e := orbit.Touched(o, b)
		for _, x := range touched {
			if x.Lo < before || x.Hi > behind {
				t.Error("touched:", x, "beside", before, behind)
			}
		}
		back, g := orbit.Corrected(b, k, o.States[k])
		want(t, "Corrected back", back, g, o, api.OK)
		want(t, "Touched", joined(touched), e, rightTouched(o, b), api.OK)
	}
}
