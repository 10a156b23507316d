package unwrap

import "swath/api"

const mostShift = 1000 // turns by which a map is shifted, in size

// Shifted returns a map of phases with whole turns added.
func Shifted(u api.PhaseMap, turns int) (api.PhaseMap, api.Errno) {
	if e := firstError(mapError(u), rangeError(turns, -mostShift, mostShift)); e != api.OK {
		return api.PhaseMap{}, e
	}
	shifted := api.PhaseMap{Rows: u.Rows, Columns: u.Columns}
	for _, phase := range u.Phases {
		shifted.Phases = append(shifted.Phases, turned(phase, turns))
	}
	if phasesError(shifted.Phases) != api.OK {
		return api.PhaseMap{}, api.ErrLarge
	}
	return shifted, api.OK
}

// Joined returns a map of phases with the rows of both, where b's first columns lie over a's last ones, and at how many
// pixels they disagree.
func Joined(a, b api.PhaseMap, overlap int) (api.PhaseMap, int, api.Errno) {
	if e := joinError(a, b, overlap); e != api.OK {
		return api.PhaseMap{}, 0, e
	}
	votes, e := votesOf(a, b, overlap)
	if e != api.OK {
		return api.PhaseMap{}, 0, e
	}
	shift, others := elected(votes)
	u := laidOver(a, b, overlap, shift)
	if phasesError(u.Phases) != api.OK {
		return api.PhaseMap{}, 0, api.ErrLarge
	}
	return u, others, api.OK
}

func joinError(a, b api.PhaseMap, overlap int) api.Errno {
	if e := firstError(mapError(a), mapError(b)); e != api.OK {
		return e
	}
	if a.Rows != b.Rows {
		return api.ErrClash
	}
	if e := rangeError(overlap, 1, min(a.Columns, b.Columns)); e != api.OK {
		return e
	}
	return largeError(a.Columns+b.Columns-overlap, api.MaxSamples)
}

// votesOf counts at how many pixels a is more than b by so many turns.
func votesOf(a, b api.PhaseMap, overlap int) (map[int]int, api.Errno) {
	votes := map[int]int{}
	for row := range a.Rows {
		for column := range overlap {
			left := a.Phases[(row+1)*a.Columns-overlap+column]
			right := b.Phases[row*b.Columns+column]
			if left == api.PhaseVoid || right == api.PhaseVoid {
				continue
			}
			if e := unitError(left - right); e != api.OK {
				return nil, e
			}
			votes[(left-right)/api.PhaseTurn]++
		}
	}
	if len(votes) == 0 {
		return nil, api.ErrNone
	}
	return votes, api.OK
}

// elected returns the turns with the most votes, of several ones the least, and the number of the other votes.
func elected(votes map[int]int) (int, int) {
	shift, most, all := 0, 0, 0
	for turns, n := range votes {
		if n > most || n == most && turns < shift {
			shift, most = turns, n
		}
		all += n
	}
	return shift, all - most
}

// laidOver returns the map with the columns of both, in which b is shifted, and lies below a.
func laidOver(a, b api.PhaseMap, overlap, shift int) api.PhaseMap {
	first := a.Columns - overlap
	u := api.PhaseMap{Rows: a.Rows, Columns: first + b.Columns}
	for row := range a.Rows {
		line := make([]int, u.Columns)
		for column := range b.Columns {
			line[first+column] = turned(b.Phases[row*b.Columns+column], shift)
		}
		for column := range a.Columns {
			phase := a.Phases[row*a.Columns+column]
			if column < first || phase != api.PhaseVoid {
				line[column] = phase
			}
		}
		u.Phases = append(u.Phases, line...)
	}
	return u
}
