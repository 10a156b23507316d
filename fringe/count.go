package fringe

import "swath/api"

// CommonStep returns the step to the right, or down, that occurs most often.
func CommonStep(m api.PhaseMap, down bool) (int, api.Errno) {
	if e := mapError(m); e != api.OK {
		return 0, e
	}
	counts := stepCounts(phases(m), down)
	if len(counts) == 0 {
		return 0, api.ErrNone
	}
	return int(mostFrequent(counts)), api.OK
}

// Histogram returns how many phases are in each of so many parts of a turn.
func Histogram(m api.PhaseMap, bins int) ([]int, api.Errno) {
	if e := firstError(mapError(m), rangeError(bins, 1, api.PhaseTurn)); e != api.OK {
		return nil, e
	}
	if api.PhaseTurn%bins != 0 {
		return nil, api.ErrShape
	}
	counts, width := make([]int, bins), api.PhaseTurn/bins
	for _, p := range phases(m).items {
		if p != void {
			counts[int(p.wrapped()+halfTurn)/width]++
		}
	}
	return counts, api.OK
}

// stepCounts tells how often each step occurs.
func stepCounts(g grid[phase], down bool) map[phase]int {
	counts := map[phase]int{}
	by := next([2]int{}, down)
	for row := range g.rows - by[0] {
		for column := range g.columns - by[1] {
			if step := stepFrom(g, [2]int{row, column}, down); step != void {
				counts[step]++
			}
		}
	}
	return counts
}

// mostFrequent takes the least one of several steps, so that the order of the map is of no effect.
func mostFrequent(counts map[phase]int) phase {
	best, most := void, 0
	for step, count := range counts {
		if count > most || count == most && step < best {
			best, most = step, count
		}
	}
	return best
}
