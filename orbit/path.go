package orbit

import (
	"sort"

	"swath/api"
)

// A path is an orbit that is followed tick by tick. Its checks may be asked of any orbit, all else of a right one.
type path struct{ api.Orbit }

// A box has a range for each of X, Y and Z.
type box [3]api.Range

// A leg is an arc, with how many of its whole ticks have passed.
type leg struct {
	from, to      api.OrbitState
	passed, whole int
}

// Nominal returns the nominal place at a tick.
func Nominal(o api.Orbit, tick int) (api.Place, api.Errno) {
	w := path{o}
	if e := firstError(w.check(), w.tickError(tick)); e != api.OK {
		return api.Place{}, e
	}
	return w.nominalAt(tick), api.OK
}

// BoxAt returns the box at a tick.
func BoxAt(o api.Orbit, tick int) ([3]api.Range, api.Errno) {
	w := path{o}
	if e := firstError(w.check(), w.tickError(tick)); e != api.OK {
		return box{}, e
	}
	return w.boxAt(tick), api.OK
}

// SpeedOf returns by how much each coordinate changes in a tick of an arc.
func SpeedOf(o api.Orbit, arc int) ([3]api.Frac, api.Errno) {
	w := path{o}
	if e := firstError(w.check(), w.arcError(arc)); e != api.OK {
		return [3]api.Frac{}, e
	}
	ticks := w.States[arc+1].Tick - w.States[arc].Tick
	var speed [3]api.Frac
	for i, way := range coordinates(w.wayOf(arc)) {
		speed[i] = lowest(way, ticks)
	}
	return speed, api.OK
}

// SideOf returns the side of an arc on which a place lies.
func SideOf(o api.Orbit, arc int, p api.Place) (int, api.Errno) {
	w := path{o}
	if e := firstError(w.check(), w.arcError(arc), placeError(p)); e != api.OK {
		return 0, e
	}
	way, off := w.wayOf(arc), less(p, w.States[arc].At)
	turn := way.X*off.Y - way.Y*off.X
	switch {
	case turn > 0:
		return api.SideLeft, api.OK
	case turn < 0:
		return api.SideRight, api.OK
	}
	return api.SideUnder, api.OK
}

func (w path) check() api.Errno {
	_, e := CheckOrbit(w.Orbit)
	return e
}

func (w path) tickError(tick int) api.Errno {
	if !w.has(tick) {
		return api.ErrRange
	}
	return api.OK
}

func (w path) arcError(arc int) api.Errno {
	if arc < 0 || arc >= len(w.States)-1 {
		return api.ErrMissing
	}
	return api.OK
}

// has looks at the number of states first, as it is asked of wrong orbits, too.
func (w path) has(tick int) bool {
	return len(w.States) > 0 && tick >= w.States[0].Tick && tick <= w.lastTick()
}

func (w path) lastTick() int {
	return w.States[len(w.States)-1].Tick
}

// ticks yields all ticks of the path.
func (w path) ticks(yield func(int) bool) {
	for tick := w.States[0].Tick; tick <= w.lastTick(); tick++ {
		if !yield(tick) {
			return
		}
	}
}

// wayOf returns how far an arc goes.
func (w path) wayOf(arc int) api.Place {
	return less(w.States[arc+1].At, w.States[arc].At)
}

// legAt returns the first arc that has a tick.
func (w path) legAt(tick int) leg {
	last := len(w.States) - 2
	arc := sort.Search(last, func(k int) bool { return w.States[k+1].Tick >= tick })
	from, to := w.States[arc], w.States[arc+1]
	return leg{from: from, to: to, passed: tick - from.Tick, whole: to.Tick - from.Tick}
}

func (w path) nominalAt(tick int) api.Place {
	g := w.legAt(tick)
	a, b := g.from.At, g.to.At
	return api.Place{X: g.nearest(a.X, b.X), Y: g.nearest(a.Y, b.Y), Z: g.nearest(a.Z, b.Z)}
}

func (w path) boxAt(tick int) box {
	g := w.legAt(tick)
	bend := w.Bend
	if g.isAtState() {
		bend = 0
	}
	from, to := coordinates(g.from.At), coordinates(g.to.At)
	var b box
	for i := range b {
		lo := g.between(from[i]-g.from.Error, to[i]-g.to.Error)
		hi := g.between(from[i]+g.from.Error, to[i]+g.to.Error)
		b[i] = api.Range{Lo: floorOf(lo, g.whole) - bend, Hi: ceilOf(hi, g.whole) + bend}
	}
	return b
}

func (g leg) isAtState() bool {
	return g.passed == 0 || g.passed == g.whole
}

// between returns, in parts of which g.whole are one, the number on the straight line between those of both states.
func (g leg) between(from, to int) int {
	return from*(g.whole-g.passed) + to*g.passed
}

func (g leg) nearest(from, to int) int {
	return nearestTo(g.between(from, to), g.whole)
}
