package fringe

import "swath/api"

// StepAt returns the step from a pixel to the right, or down.
func StepAt(m api.PhaseMap, at [2]int, down bool) (int, api.Errno) {
	if e := mapError(m); e != api.OK {
		return 0, e
	}
	g := phases(m)
	if !g.has(at) || !g.has(next(at, down)) {
		return 0, api.ErrRange
	}
	step := stepFrom(g, at, down)
	if step == void {
		return 0, api.ErrVoid
	}
	return int(step), api.OK
}

// Residues returns the plaquettes whose turns are not 0.
func Residues(m api.PhaseMap) ([]api.FringeResidue, api.Errno) {
	if e := mapError(m); e != api.OK {
		return nil, e
	}
	g := phases(m)
	var found []api.FringeResidue
	for row := range m.Rows - 1 {
		for column := range m.Columns - 1 {
			plaquette := api.FringeBox{Row: row, Column: column, High: 1, Wide: 1}
			if turns, whole := turnsAround(g, plaquette); whole && turns != 0 {
				found = append(found, api.FringeResidue{Row: row, Column: column, Turns: turns})
			}
		}
	}
	return found, api.OK
}

// TurnsAround returns the turns around a box.
func TurnsAround(m api.PhaseMap, b api.FringeBox) (int, api.Errno) {
	if e := firstError(mapError(m), boxError(m, b)); e != api.OK {
		return 0, e
	}
	turns, whole := turnsAround(phases(m), b)
	if !whole {
		return 0, api.ErrVoid
	}
	return turns, api.OK
}

// boxError compares without sums, which may be too large for an int.
func boxError(m api.PhaseMap, b api.FringeBox) api.Errno {
	if e := firstError(rangeError(b.Row, 0, m.Rows-1), rangeError(b.Column, 0, m.Columns-1)); e != api.OK {
		return e
	}
	return firstError(rangeError(b.High, 1, m.Rows-1-b.Row), rangeError(b.Wide, 1, m.Columns-1-b.Column))
}

// next returns the place at the right of a place, or below.
func next(at [2]int, down bool) [2]int {
	if down {
		at[0]++
	} else {
		at[1]++
	}
	return at
}

// stepFrom returns the step from a place to the next one, void if one of both is.
func stepFrom(g grid[phase], at [2]int, down bool) phase {
	return g.at(next(at, down)).minus(g.at(at))
}

// turnsAround goes along a box; it returns false if a pixel of its border is void.
func turnsAround(g grid[phase], b api.FringeBox) (int, bool) {
	right, below := b.Column+b.Wide, b.Row+b.High
	steps := phase(0)
	for column := b.Column; column < right; column++ {
		upper, lower := stepFrom(g, [2]int{b.Row, column}, false), stepFrom(g, [2]int{below, column}, false)
		if upper == void || lower == void {
			return 0, false
		}
		steps += upper - lower
	}
	for row := b.Row; row < below; row++ {
		near, far := stepFrom(g, [2]int{row, right}, true), stepFrom(g, [2]int{row, b.Column}, true)
		if near == void || far == void {
			return 0, false
		}
		steps += near - far
	}
	return int(steps / api.PhaseTurn), true
}
