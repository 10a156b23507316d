package unwrap

import "swath/api"

// Along returns the phases along a path of pixels, step by step.
func Along(m api.PhaseMap, path []int) ([]int, api.Errno) {
	if e := pathError(m, path); e != api.OK {
		return nil, e
	}
	phases := make([]int, len(path))
	for i, pixel := range path {
		if i == 0 {
			phases[i] = m.Phases[pixel]
			continue
		}
		phases[i] = phases[i-1] + stepOf(m.Phases, path[i-1], pixel)
	}
	return phases, api.OK
}

func pathError(m api.PhaseMap, path []int) api.Errno {
	if e := gridError(m.Rows, m.Columns, len(m.Phases)); e != api.OK {
		return e
	}
	if e := firstError(wrappedError(m.Phases), largeError(len(path), api.MaxUnwrapPath)); e != api.OK {
		return e
	}
	for i, pixel := range path {
		if pixel < 0 || pixel >= len(m.Phases) {
			return api.ErrMissing
		}
		if m.Phases[pixel] == api.PhaseVoid {
			return api.ErrVoid
		}
		if i > 0 && !areNeighbours(path[i-1], pixel, m.Columns) {
			return api.ErrGap
		}
	}
	return api.OK
}
