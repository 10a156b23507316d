package fringe

import (
	"slices"

	"swath/api"
)

// A phase is that of a pixel, or void.
type phase int

const (
	void     phase = api.PhaseVoid
	halfTurn phase = api.PhaseTurn / 2
)

// Wrapped returns a map with its phases wrapped.
func Wrapped(m api.PhaseMap) (api.PhaseMap, api.Errno) {
	if e := mapError(m); e != api.OK {
		return api.PhaseMap{}, e
	}
	return mapOf(mapped(phases(m), phase.wrapped)), api.OK
}

// Difference returns the wrapped differences of two maps.
func Difference(a, b api.PhaseMap) (api.PhaseMap, api.Errno) {
	return combinedMap(a, b, phase.minus)
}

// Total returns the wrapped sums of two maps.
func Total(a, b api.PhaseMap) (api.PhaseMap, api.Errno) {
	return combinedMap(a, b, phase.plus)
}

// Closure returns what three maps miss to close, wrapped.
func Closure(ab, bc, ac api.PhaseMap) (api.PhaseMap, api.Errno) {
	first, second, third := sizeOf(ab), sizeOf(bc), sizeOf(ac)
	if e := firstError(mapError(ab), mapError(bc), mapError(ac), clashError(first, second), clashError(first, third)); e != api.OK {
		return api.PhaseMap{}, e
	}
	along := combined(phases(ab), phases(bc), phase.plus)
	return mapOf(combined(along, phases(ac), phase.minus)), api.OK
}

// ModelPhases returns the phases of a model, not wrapped.
func ModelPhases(x api.FringeModel, h api.FloatMap) (api.PhaseMap, api.Errno) {
	g, e := modelled(x, h)
	if e != api.OK {
		return api.PhaseMap{}, e
	}
	return mapOf(g), api.OK
}

// Flattened returns a map less the phases of a model, wrapped.
func Flattened(m api.PhaseMap, x api.FringeModel, h api.FloatMap) (api.PhaseMap, api.Errno) {
	if e := mapError(m); e != api.OK {
		return api.PhaseMap{}, e
	}
	g, e := modelled(x, h)
	if e != api.OK {
		return api.PhaseMap{}, e
	}
	if e := clashError(sizeOf(m), g.size()); e != api.OK {
		return api.PhaseMap{}, e
	}
	return mapOf(combined(phases(m), g, phase.minus)), api.OK
}

func sizeOf(m api.PhaseMap) [2]int {
	return [2]int{m.Rows, m.Columns}
}

func phases(m api.PhaseMap) grid[phase] {
	return mapped(grid[int]{m.Rows, m.Columns, m.Phases}, func(n int) phase { return phase(n) })
}

func mapOf(g grid[phase]) api.PhaseMap {
	numbers := mapped(g, func(p phase) int { return int(p) })
	return api.PhaseMap{Rows: g.rows, Columns: g.columns, Phases: numbers.items}
}

func combinedMap(a, b api.PhaseMap, item func(p, q phase) phase) (api.PhaseMap, api.Errno) {
	if e := firstError(mapError(a), mapError(b), clashError(sizeOf(a), sizeOf(b))); e != api.OK {
		return api.PhaseMap{}, e
	}
	return mapOf(combined(phases(a), phases(b), item)), api.OK
}

func modelled(x api.FringeModel, h api.FloatMap) (grid[phase], api.Errno) {
	if e := firstError(modelError(x), floatMapError(h)); e != api.OK {
		return grid[phase]{}, e
	}
	heights := floats(h)
	g := made(h.Rows, h.Columns, func(at [2]int) phase { return modelPhase(x, at, int(heights.at(at))) })
	if slices.ContainsFunc(g.items, phase.isLarge) {
		return grid[phase]{}, api.ErrLarge
	}
	return g, api.OK
}

func modelError(x api.FringeModel) api.Errno {
	for _, n := range [...]int{x.Base, x.PerRow, x.PerColumn, x.PerHeight} {
		if e := rangeError(n, -api.MaxModel, api.MaxModel); e != api.OK {
			return e
		}
	}
	return api.OK
}

func modelPhase(x api.FringeModel, at [2]int, height int) phase {
	const parts = 1000
	thousandths := x.Base + at[0]*x.PerRow + at[1]*x.PerColumn + height*x.PerHeight
	return phase(floorOf(thousandths+parts/2, parts))
}

// floorOf returns n / d rounded down, for d above 0.
func floorOf(n, d int) int {
	q := n / d
	if n%d < 0 {
		q--
	}
	return q
}

func (p phase) isLarge() bool {
	return p < -api.MaxPhase || p > api.MaxPhase
}

// wrapped takes whole turns away. As a turn is a power of two, its lower bits are right for phases below 0, too.
func (p phase) wrapped() phase {
	if p == void {
		return void
	}
	return (p+halfTurn)&(api.PhaseTurn-1) - halfTurn
}

func (p phase) plus(q phase) phase {
	if p == void || q == void {
		return void
	}
	return (p + q).wrapped()
}

func (p phase) minus(q phase) phase {
	if p == void || q == void {
		return void
	}
	return (p - q).wrapped()
}
