package stack

import "swath/api"

const mostSolved = api.MaxScenes * api.MaxPhase // phases of scenes, in size

// Solved returns the phases of the scenes, or beside ErrBreak the pairs that miss.
func Solved(t api.StackTask, datum int) ([]int, []int, api.Errno) {
	g, e := readTask(t)
	if e != api.OK {
		return nil, nil, e
	}
	if e := missingError(datum, len(g.Scenes)); e != api.OK {
		return nil, nil, e
	}
	if open := g.open(t.Phases); len(open) > 0 {
		return nil, open, api.ErrBreak
	}
	return g.lightest().sums(t.Phases, datum), nil, api.OK
}

// Moved returns phases of scenes with another datum.
func Moved(s api.StackNet, phases []int, datum int) ([]int, api.Errno) {
	g, e := right(s)
	if e != api.OK {
		return nil, e
	}
	if e := firstError(shapeError(len(phases), len(g.Scenes)), solvedError(phases), missingError(datum, len(g.Scenes))); e != api.OK {
		return nil, e
	}
	if phases[datum] == api.PhaseVoid {
		return nil, api.ErrVoid
	}
	moved := make([]int, len(phases))
	for scene, phase := range phases {
		moved[scene] = phase
		if phase != api.PhaseVoid {
			moved[scene] -= phases[datum]
		}
	}
	return moved, api.OK
}

// open returns the pairs whose miss is not 0.
func (g graph) open(phases []int) []int {
	var open []int
	for number, miss := range g.lightest().misses(phases) {
		if miss != 0 {
			open = append(open, number)
		}
	}
	return open
}

// solvedError looks at phases of scenes one by one.
func solvedError(phases []int) api.Errno {
	for _, phase := range phases {
		if phase == api.PhaseVoid {
			continue
		}
		if e := rangeError(phase, -mostSolved, mostSolved); e != api.OK {
			return e
		}
	}
	return api.OK
}
