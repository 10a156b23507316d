package unwrap

import (
	"iter"

	"swath/api"
)

// pairs yields the pairs of neighbours of a map with their numbers: first those across, row by row, then those down.
func pairs(rows, columns int) iter.Seq2[int, [2]int] {
	return func(yield func(number int, pair [2]int) bool) {
		number := 0
		for pixel := range rows * columns {
			if pixel%columns == columns-1 {
				continue
			}
			if !yield(number, [2]int{pixel, pixel + 1}) {
				return
			}
			number++
		}
		for pixel := range (rows - 1) * columns {
			if !yield(number, [2]int{pixel, pixel + columns}) {
				return
			}
			number++
		}
	}
}

// pairsAcross is how many of the pairs of neighbours are beside one another in a row.
func pairsAcross(rows, columns int) int {
	return rows * (columns - 1)
}

func pairsDown(rows, columns int) int {
	return (rows - 1) * columns
}

// areNeighbours tells it of two pixels of a map.
func areNeighbours(a, b, columns int) bool {
	return sizeOf(a-b) == columns || sizeOf(a-b) == 1 && a/columns == b/columns
}

const half = api.PhaseTurn / 2

// wrapped takes whole turns away from a phase, or adds them.
func wrapped(phase int) int {
	rest := (phase + half) % api.PhaseTurn
	if rest < 0 {
		rest += api.PhaseTurn
	}
	return rest - half
}

// stepOf is the step from a pixel to a neighbour: what it is one way, it is less than 0 by the other way, so that a half
// turn has a sign of its own.
func stepOf(phases []int, from, to int) int {
	if from > to {
		return -stepOf(phases, to, from)
	}
	return wrapped(phases[to] - phases[from])
}

// gridError is the error of a map's size.
func gridError(rows, columns, items int) api.Errno {
	if e := firstError(rangeError(rows, 1, api.MaxLines), rangeError(columns, 1, api.MaxSamples)); e != api.OK {
		return e
	}
	return shapeError(items, rows*columns)
}

func largeError(n, most int) api.Errno {
	if n > most {
		return api.ErrLarge
	}
	return api.OK
}

// wrappedError looks at the phases of a wrapped map one by one.
func wrappedError(phases []int) api.Errno {
	for _, phase := range phases {
		if phase == api.PhaseVoid {
			continue
		}
		if e := rangeError(phase, -half, half-1); e != api.OK {
			return e
		}
	}
	return api.OK
}

// mapError is the error of a map of phases.
func mapError(m api.PhaseMap) api.Errno {
	if e := gridError(m.Rows, m.Columns, len(m.Phases)); e != api.OK {
		return e
	}
	return phasesError(m.Phases)
}

func phasesError(phases []int) api.Errno {
	for _, phase := range phases {
		if e := phaseError(phase); e != api.OK {
			return e
		}
	}
	return api.OK
}

func phaseError(phase int) api.Errno {
	if phase == api.PhaseVoid {
		return api.OK
	}
	return rangeError(phase, -api.MaxPhase, api.MaxPhase)
}

func unitError(phase int) api.Errno {
	if phase%api.PhaseTurn != 0 {
		return api.ErrUnit
	}
	return api.OK
}

// turned adds turns to a phase; a void pixel stays void.
func turned(phase, turns int) int {
	if phase == api.PhaseVoid {
		return phase
	}
	return phase + turns*api.PhaseTurn
}
