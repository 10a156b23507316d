package orbit

import "swath/api"

// SquareAt returns the squares from a place to the box at a tick.
func SquareAt(o api.Orbit, tick int, p api.Place) (api.Range, api.Errno) {
	w := path{o}
	if e := firstError(w.check(), w.tickError(tick), placeError(p)); e != api.OK {
		return api.Range{}, e
	}
	return w.squareAt(tick, p), api.OK
}

// DistanceAt returns the distances from a place to the box at a tick.
func DistanceAt(o api.Orbit, tick int, p api.Place) (api.Range, api.Errno) {
	square, e := SquareAt(o, tick, p)
	if e != api.OK {
		return api.Range{}, e
	}
	return api.Range{Lo: rootDown(square.Lo), Hi: rootUp(square.Hi)}, api.OK
}

// Nearest returns the first tick whose nominal place is nearest to a place, and the square of the distance.
func Nearest(o api.Orbit, p api.Place) (int, int, api.Errno) {
	w := path{o}
	if e := firstError(w.check(), placeError(p)); e != api.OK {
		return 0, 0, e
	}
	tick, square := w.least(func(tick int) int { return w.nominalSquareAt(tick, p) })
	return tick, square, api.OK
}

// MayBeNearest returns the first and the last tick that may be nearest to a place, and the tick that proves it.
func MayBeNearest(o api.Orbit, p api.Place) (api.Range, int, api.Errno) {
	w := path{o}
	if e := firstError(w.check(), placeError(p)); e != api.OK {
		return api.Range{}, 0, e
	}
	witness, bound := w.least(func(tick int) int { return w.squareAt(tick, p).Hi })
	may := api.Range{Lo: witness, Hi: witness}
	for tick := range w.ticks {
		if w.squareAt(tick, p).Lo <= bound {
			may.Lo, may.Hi = min(may.Lo, tick), max(may.Hi, tick)
		}
	}
	return may, witness, api.OK
}

// CheckNearest accepts ticks among which the nearest one is, with a witness, and returns how many they are.
func CheckNearest(o api.Orbit, p api.Place, x api.OrbitNearest) (int, api.Errno) {
	w := path{o}
	if e := firstError(w.check(), placeError(p), w.tickError(x.Ticks.Lo), w.tickError(x.Ticks.Hi), w.tickError(x.Witness)); e != api.OK {
		return 0, e
	}
	if x.Ticks.Lo > x.Ticks.Hi {
		return 0, api.ErrOrder
	}
	bound := w.squareAt(x.Witness, p).Hi
	for tick := range w.ticks {
		outside := tick < x.Ticks.Lo || tick > x.Ticks.Hi
		if outside && w.squareAt(tick, p).Lo <= bound {
			return 0, api.ErrProof
		}
	}
	return x.Ticks.Hi - x.Ticks.Lo + 1, api.OK
}

// Passes returns the longest ranges of ticks whose nominal places are at most a distance away from a place.
func Passes(o api.Orbit, p api.Place, most int) ([]api.Range, api.Errno) {
	w := path{o}
	if e := firstError(w.check(), placeError(p), rangeError(most, 0, api.MaxPlace)); e != api.OK {
		return nil, e
	}
	var passes []api.Range
	for tick := range w.ticks {
		if w.nominalSquareAt(tick, p) <= most*most {
			passes = withTick(passes, tick)
		}
	}
	return passes, api.OK
}

// least returns the first tick at which a number is least, and this number.
func (w path) least(number func(tick int) int) (int, int) {
	first := w.States[0].Tick
	least := number(first)
	for tick := range w.ticks {
		if n := number(tick); n < least {
			first, least = tick, n
		}
	}
	return first, least
}

func (w path) nominalSquareAt(tick int, p api.Place) int {
	way := less(w.nominalAt(tick), p)
	return product(way, way)
}

func (w path) squareAt(tick int, p api.Place) api.Range {
	b := w.boxAt(tick)
	var square api.Range
	for i, c := range coordinates(p) {
		near := max(0, b[i].Lo-c, c-b[i].Hi)
		far := max(b[i].Hi-c, c-b[i].Lo)
		square.Lo += near * near
		square.Hi += far * far
	}
	return square
}
