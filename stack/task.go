package stack

import "swath/api"

// CheckTask returns the error of a task.
func CheckTask(t api.StackTask) api.Errno {
	_, e := readTask(t)
	return e
}

// Closure returns the closure of a closed walk.
func Closure(t api.StackTask, cycle []api.StackStep) (int, api.Errno) {
	g, e := readTask(t)
	if e != api.OK {
		return 0, e
	}
	if e := g.cycleError(cycle); e != api.OK {
		return 0, e
	}
	return closureOf(t.Phases, cycle), api.OK
}

// FirstOpen returns the first cycle of the lightest forest that does not close but for whole turns, and its closure.
func FirstOpen(t api.StackTask) ([]api.StackStep, int, api.Errno) {
	g, e := readTask(t)
	if e != api.OK {
		return nil, 0, e
	}
	for cycle := range g.lightest().cycles() {
		if closure := closureOf(t.Phases, cycle); closure%api.PhaseTurn != 0 {
			return cycle, closure, api.OK
		}
	}
	return nil, 0, api.ErrNone
}

// readTask returns the graph of a task that has no error.
func readTask(t api.StackTask) (graph, api.Errno) {
	g, e := right(t.Net)
	if e != api.OK {
		return graph{}, e
	}
	e = firstError(
		shapeError(len(t.Phases), len(g.Pairs)),
		shapeError(len(t.Weights), len(g.Pairs)),
		rangesError(t.Phases, -api.MaxPhase, api.MaxPhase),
		rangesError(t.Weights, 0, api.MaxNetWeight),
	)
	if e != api.OK {
		return graph{}, e
	}
	return g, api.OK
}

func closureOf(phases []int, cycle []api.StackStep) int {
	closure := 0
	for _, step := range cycle {
		closure += step.Sign * phases[step.Pair]
	}
	return closure
}
