package orbit

import (
	"slices"

	"swath/api"
)

// Agree returns whether two orbits may be at the same place at a tick.
func Agree(a, b api.Orbit, tick int) (int, api.Errno) {
	v, w := path{a}, path{b}
	if e := firstError(v.check(), w.check(), v.tickError(tick), w.tickError(tick)); e != api.OK {
		return 0, e
	}
	first, second := v.boxAt(tick), w.boxAt(tick)
	switch {
	case !first.meets(second):
		return api.AnswerNo, api.OK
	case first == second && first.isPlace():
		return api.AnswerYes, api.OK
	}
	return api.AnswerMaybe, api.OK
}

// Corrected returns the orbit with another state in the place of one.
func Corrected(o api.Orbit, state int, s api.OrbitState) (api.Orbit, api.Errno) {
	w := path{o}
	if e := firstError(w.check(), w.stateError(state)); e != api.OK {
		return api.Orbit{}, e
	}
	states := slices.Clone(w.States)
	states[state] = s
	return checked(w.Name, w.Bend, states)
}

// Without returns the orbit without a state.
func Without(o api.Orbit, state int) (api.Orbit, api.Errno) {
	w := path{o}
	if e := firstError(w.check(), w.stateError(state)); e != api.OK {
		return api.Orbit{}, e
	}
	return checked(w.Name, w.Bend, slices.Delete(slices.Clone(w.States), state, state+1))
}

// Touched returns the longest ranges of ticks at which two orbits have not the same box.
func Touched(a, b api.Orbit) ([]api.Range, api.Errno) {
	v, w := path{a}, path{b}
	if e := firstError(v.check(), w.check()); e != api.OK {
		return nil, e
	}
	var touched []int
	for tick := range v.ticks {
		if !w.has(tick) || v.boxAt(tick) != w.boxAt(tick) {
			touched = append(touched, tick)
		}
	}
	for tick := range w.ticks {
		if !v.has(tick) {
			touched = append(touched, tick)
		}
	}
	slices.Sort(touched)
	var ranges []api.Range
	for _, tick := range touched {
		ranges = withTick(ranges, tick)
	}
	return ranges, api.OK
}

func (w path) stateError(state int) api.Errno {
	if state < 0 || state >= len(w.States) {
		return api.ErrMissing
	}
	return api.OK
}

func checked(name string, bend int, states []api.OrbitState) (api.Orbit, api.Errno) {
	w := path{api.Orbit{Name: name, Bend: bend, States: states}}
	if e := w.check(); e != api.OK {
		return api.Orbit{}, e
	}
	return w.Orbit, api.OK
}

func (b box) meets(c box) bool {
	for i := range b {
		if b[i].Hi < c[i].Lo || c[i].Hi < b[i].Lo {
			return false
		}
	}
	return true
}

// isPlace tells whether the box has one place alone.
func (b box) isPlace() bool {
	for _, r := range b {
		if r.Lo != r.Hi {
			return false
		}
	}
	return true
}
