package orbit

import "swath/api"

// mostBase limits the coordinates of baselines.
const mostBase = 1000000

// Baseline returns how far the second orbit is away from the first one along the sight of a place, and across it.
func Baseline(a, b api.Orbit, x api.OrbitBase) ([2]api.Range, api.Errno) {
	v, w := path{a}, path{b}
	if e := firstError(v.check(), w.check(), v.tickError(x.First), w.tickError(x.Second), placeError(x.Place)); e != api.OK {
		return [2]api.Range{}, e
	}
	at := v.nominalAt(x.First)
	base, sight := less(w.nominalAt(x.Second), at), less(x.Place, at)
	if e := firstError(baseError(base), sightError(sight)); e != api.OK {
		return [2]api.Range{}, e
	}
	along := alongOf(base, sight)
	return [2]api.Range{along, acrossOf(base, along)}, api.OK
}

func baseError(base api.Place) api.Errno {
	for _, c := range coordinates(base) {
		if rangeError(c, -mostBase, mostBase) != api.OK {
			return api.ErrLarge
		}
	}
	return api.OK
}

func sightError(sight api.Place) api.Errno {
	if sight == (api.Place{}) {
		return api.ErrZero
	}
	return api.OK
}

func alongOf(base, sight api.Place) api.Range {
	d, square := product(base, sight), product(sight, sight)
	r, up := rootDown(square), rootUp(square)
	return api.Range{Lo: min(floorOf(d, r), floorOf(d, up)), Hi: max(ceilOf(d, r), ceilOf(d, up))}
}

// acrossOf is what along leaves of the length of a baseline.
func acrossOf(base api.Place, along api.Range) api.Range {
	square := product(base, base)
	greatest, least := max(-along.Lo, along.Hi), max(0, along.Lo, -along.Hi)
	return api.Range{
		Lo: rootDown(max(0, square-greatest*greatest)),
		Hi: rootUp(max(0, square-least*least)),
	}
}
