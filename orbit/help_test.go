package orbit_test

import (
	"math"
	"math/big"
	"reflect"
	"testing"

	"swath/api"
)

// want compares a result and an error with those that are right.
func want(t *testing.T, what string, got any, e api.Errno, right any, rightError api.Errno) {
	t.Helper()
	if e != rightError {
		t.Errorf("%s: error %d, want %d", what, e, rightError)
	}
	if !reflect.DeepEqual(got, right) {
		t.Errorf("%s: %v, want %v", what, got, right)
	}
}

// at returns a state.
func at(tick, x, y, z, wrong int) api.OrbitState {
	return api.OrbitState{Tick: tick, At: api.Place{X: x, Y: y, Z: z}, Error: wrong}
}

func place(x, y, z int) api.Place { return api.Place{X: x, Y: y, Z: z} }

func span(lo, hi int) api.Range { return api.Range{Lo: lo, Hi: hi} }

// orbitOf returns an orbit with the name p.
func orbitOf(bend int, states ...api.OrbitState) api.Orbit {
	return api.Orbit{Name: "p", Bend: bend, States: states}
}

// example returns the orbit of the chapter's examples.
func example() api.Orbit {
	return orbitOf(2, at(0, 0, 0, 100, 1), at(10, 50, 20, 100, 3))
}

// still returns an orbit that stands at a place without error.
func still(first, last int, p api.Place) api.Orbit {
	return orbitOf(0, api.OrbitState{Tick: first, At: p}, api.OrbitState{Tick: last, At: p})
}

// numbers yields the same numbers in each run, below a bound.
type numbers struct{ state uint64 }

func (r *numbers) below(n int) int {
	r.state = r.state*6364136223846793005 + 1442695040888963407
	return int(r.state>>33) % n
}

// within returns a number from -most to most.
func (r *numbers) within(most int) int { return r.below(2*most+1) - most }

func (r *numbers) place(most int) api.Place {
	return place(r.within(most), r.within(most), r.within(most))
}

// orbit returns an orbit with so many states, in a cube and with errors up to a size.
func (r *numbers) orbit(states, most, wrong int) api.Orbit {
	o := orbitOf(r.below(wrong+1), at(r.below(50), 0, 0, 0, 0))
	for i := range states {
		s := api.OrbitState{Tick: o.States[0].Tick, At: r.place(most), Error: r.below(wrong + 1)}
		if i > 0 {
			s.Tick = o.States[i-1].Tick + 1 + r.below(12)
			o.States = append(o.States, s)
		} else {
			o.States[0] = s
		}
	}
	return o
}

// greatOrbit returns an orbit from one corner of all places to the opposite one, as wrong as may be.
func greatOrbit() api.Orbit {
	const far = api.MaxPlace
	return orbitOf(api.MaxOrbitError, at(0, -far, -far, -far, api.MaxOrbitError), at(api.MaxArcTicks-1, far, far, far, api.MaxOrbitError),
		at(api.MaxArcTicks, -far, far, -far, api.MaxOrbitError))
}

// orbits returns many right orbits.
func orbits() []api.Orbit {
	r := numbers{2}
	out := []api.Orbit{example(), still(5, 9, place(1, 2, 3))}
	for i := range 60 {
		out = append(out, r.orbit(2+i%7, 1+r.below(200), i%9))
	}
	return append(out, r.orbit(api.MaxStates, 1000000, 100))
}

// ticksOf returns all ticks of an orbit.
func ticksOf(o api.Orbit) []int {
	var out []int
	for t := o.States[0].Tick; t <= o.States[len(o.States)-1].Tick; t++ {
		out = append(out, t)
	}
	return out
}

// isState tells whether a tick is that of a state.
func isState(o api.Orbit, tick int) bool {
	for _, s := range o.States {
		if s.Tick == tick {
			return true
		}
	}
	return false
}

// line returns a number of an orbit at a tick, on the straight line between the states beside it, exactly.
func line(o api.Orbit, tick int, of func(api.OrbitState) int) *big.Rat {
	for i := range len(o.States) - 1 {
		a, b := o.States[i], o.States[i+1]
		if a.Tick <= tick && tick <= b.Tick {
			out := new(big.Rat).Mul(big.NewRat(int64(of(b)-of(a)), 1), big.NewRat(int64(tick-a.Tick), int64(b.Tick-a.Tick)))
			return out.Add(out, big.NewRat(int64(of(a)), 1))
		}
	}
	return nil
}

// down rounds down, up rounds up.
func down(x *big.Rat) int {
	return int(new(big.Int).Div(x.Num(), x.Denom()).Int64()) // Euclid's: down, as the denominator is above 0
}

func up(x *big.Rat) int { return -down(new(big.Rat).Neg(x)) }

// coordinatesOf are the functions that tell a state's coordinates.
func coordinatesOf() [3]func(api.OrbitState) int {
	return [3]func(api.OrbitState) int{
		func(s api.OrbitState) int { return s.At.X },
		func(s api.OrbitState) int { return s.At.Y },
		func(s api.OrbitState) int { return s.At.Z },
	}
}

// rightNominal and rightBox are found from the definitions, exactly.
func rightNominal(o api.Orbit, tick int) api.Place {
	var out [3]int
	for i, of := range coordinatesOf() {
		out[i] = down(new(big.Rat).Add(line(o, tick, of), big.NewRat(1, 2)))
	}
	return place(out[0], out[1], out[2])
}

func rightBox(o api.Orbit, tick int) [3]api.Range {
	wrong := line(o, tick, func(s api.OrbitState) int { return s.Error })
	if !isState(o, tick) {
		wrong.Add(wrong, big.NewRat(int64(o.Bend), 1))
	}
	var out [3]api.Range
	for i, of := range coordinatesOf() {
		point := line(o, tick, of)
		out[i] = span(down(new(big.Rat).Sub(point, wrong)), up(new(big.Rat).Add(point, wrong)))
	}
	return out
}

// squareOf is the square of the distance of two places.
func squareOf(a, b api.Place) int {
	return (a.X-b.X)*(a.X-b.X) + (a.Y-b.Y)*(a.Y-b.Y) + (a.Z-b.Z)*(a.Z-b.Z)
}

// rightSquares goes through the points of the box that can be nearest or farthest: its ends, and the place itself.
func rightSquares(b [3]api.Range, p api.Place) api.Range {
	var out api.Range
	for i, c := range [3]int{p.X, p.Y, p.Z} {
		least, most := math.MaxInt, 0
		for _, x := range []int{b[i].Lo, b[i].Hi, c} {
			if b[i].Lo <= x && x <= b[i].Hi {
				least, most = min(least, (x-c)*(x-c)), max(most, (x-c)*(x-c))
			}
		}
		out.Lo, out.Hi = out.Lo+least, out.Hi+most
	}
	return out
}

// rootDown and rootUp are exact roots.
func rootDown(n int) int {
	return int(new(big.Int).Sqrt(big.NewInt(int64(n))).Int64())
}

func rootUp(n int) int {
	r := rootDown(n)
	if r*r < n {
		r++
	}
	return r
}

// A wrong orbit with its error, and the number of the state beside it.
type wrongOrbit struct {
	o api.Orbit
	n int
	e api.Errno
}

// wrongOrbits returns orbits with the errors that each function of an orbit returns.
func wrongOrbits() map[string]wrongOrbit {
	named := func(name string) api.Orbit {
		o := example()
		o.Name = name
		return o
	}
	bent := func(bend int) api.Orbit { return orbitOf(bend, example().States...) }
	with := func(s ...api.OrbitState) api.Orbit { return orbitOf(2, append(example().States, s...)...) }
	many := orbitOf(0)
	for i := range 41 {
		many.States = append(many.States, at(i, 0, 0, 0, 0))
	}
	return map[string]wrongOrbit{
		"nothing":                   {api.Orbit{}, 0, api.ErrName},
		"a digit first":             {named("1p"), 0, api.ErrName},
		"a dash first":              {named("-p"), 0, api.ErrName},
		"13 letters":                {named("abcdefghijklm"), 0, api.ErrName},
		"a blank in the name":       {named("p q"), 0, api.ErrName},
		"a letter of another kind":  {named("p\u00e9"), 0, api.ErrName},
		"a line feed in the name":   {named("p\n"), 0, api.ErrName},
		"a bend below 0":            {bent(-1), 0, api.ErrRange},
		"a great bend":              {bent(100001), 0, api.ErrRange},
		"the least bend":            {bent(math.MinInt), 0, api.ErrRange},
		"no states":                 {orbitOf(0), 0, api.ErrShape},
		"one state":                 {orbitOf(0, at(-1, 0, 0, 0, 0)), 0, api.ErrShape},
		"41 states":                 {many, 0, api.ErrLarge},
		"a first tick below 0":      {orbitOf(0, at(-1, 0, 0, 0, 0), at(1, 0, 0, 0, 0)), 0, api.ErrRange},
		"a great tick":              {with(at(1000000001, 0, 0, 0, 0)), 2, api.ErrRange},
		"a great X":                 {with(at(11, 100000001, 0, 0, 0)), 2, api.ErrRange},
		"a great Y below 0":         {with(at(11, 0, -100000001, 0, 0)), 2, api.ErrRange},
		"a great Z":                 {with(at(11, 0, 0, 100000001, 0)), 2, api.ErrRange},
		"the least X":               {with(at(11, math.MinInt, 0, 0, 0)), 2, api.ErrRange},
		"an error below 0":          {with(at(11, 0, 0, 0, -1)), 2, api.ErrRange},
		"a great error":             {with(at(11, 0, 0, 0, 100001)), 2, api.ErrRange},
		"the same tick":             {with(at(10, 0, 0, 0, 0)), 2, api.ErrOrder},
		"an earlier tick":           {with(at(11, 0, 0, 0, 0), at(5, 0, 0, 0, 0)), 3, api.ErrOrder},
		"a late tick":               {with(at(11, 0, 0, 0, 0), at(20001, 0, 0, 0, 0)), 3, api.ErrLarge},
		"a late tick, and another":  {with(at(20001, 0, 0, 0, 0), at(5, 0, 0, 0, -1)), 2, api.ErrLarge},
		"an error ahead of order":   {with(at(10, 0, 0, 0, -1)), 2, api.ErrRange},
		"an error ahead of late":    {with(at(20001, 0, 0, 0, -1)), 2, api.ErrRange},
		"order, then an error":      {with(at(9, 0, 0, 0, 0), at(-1, 0, 0, 0, 0)), 2, api.ErrOrder},
		"a name ahead of the bend":  {api.Orbit{Bend: -1}, 0, api.ErrName},
		"a bend ahead of the count": {orbitOf(-1), 0, api.ErrRange},
	}
}

// wrongPlaces returns places that are none.
func wrongPlaces() []api.Place {
	return []api.Place{place(100000001, 0, 0), place(-100000001, 0, 0), place(0, 100000001, 0), place(0, -100000001, 0),
		place(0, 0, 100000001), place(0, 0, -100000001), place(math.MinInt, 0, 0), place(0, math.MaxInt, 0)}
}

// zeroBeside checks that all results beside an error are zero.
func zeroBeside(t *testing.T, what string, e api.Errno, results ...any) {
	t.Helper()
	for _, x := range results {
		if e != api.OK && !reflect.ValueOf(x).IsZero() {
			t.Errorf("%s: %v beside the error %d", what, x, e)
		}
	}
}
