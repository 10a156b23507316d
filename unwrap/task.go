package unwrap

import (
	"slices"

	"swath/api"
)

// CheckTask returns the error of a task.
func CheckTask(t api.UnwrapTask) api.Errno {
	m := t.Map
	if e := firstError(gridError(m.Rows, m.Columns, len(m.Phases)), largeError(len(m.Phases), api.MaxUnwrapSize)); e != api.OK {
		return e
	}
	return firstError(
		wrappedError(m.Phases),
		shapeError(len(t.Across), pairsAcross(m.Rows, m.Columns)),
		shapeError(len(t.Down), pairsDown(m.Rows, m.Columns)),
		weightsError(t.Across),
		weightsError(t.Down),
	)
}

// NetOf returns the net of a task.
func NetOf(t api.UnwrapTask) (api.UnwrapNet, api.Errno) {
	if e := CheckTask(t); e != api.OK {
		return api.UnwrapNet{}, e
	}
	phases := t.Map.Phases
	weights := slices.Concat(t.Across, t.Down)
	n := api.UnwrapNet{Nodes: len(phases)}
	for i, pair := range pairs(t.Map.Rows, t.Map.Columns) {
		from, to := pair[0], pair[1]
		if phases[from] == api.PhaseVoid || phases[to] == api.PhaseVoid {
			continue
		}
		jump := (phases[to] - phases[from] - stepOf(phases, from, to)) / api.PhaseTurn
		n.Edges = append(n.Edges, api.UnwrapEdge{From: from, To: to, Jump: jump, Weight: weights[i]})
	}
	return n, api.OK
}

// CheckField returns the cost of a field.
func CheckField(t api.UnwrapTask, u api.PhaseMap) (int, api.Errno) {
	n, turns, e := turnsOf(t, u)
	if e != api.OK {
		return 0, e
	}
	return costOf(n, turns), api.OK
}

// Unwrap returns a best field, a flow that proves it, and its cost.
func Unwrap(t api.UnwrapTask) (api.PhaseMap, []int, int, api.Errno) {
	n, e := NetOf(t)
	if e != api.OK {
		return api.PhaseMap{}, nil, 0, e
	}
	turns, flow := solution(n)
	u := api.PhaseMap{Rows: t.Map.Rows, Columns: t.Map.Columns}
	for i, phase := range t.Map.Phases {
		u.Phases = append(u.Phases, turned(phase, turns[i]))
	}
	return u, flow, costOf(n, turns), api.OK
}

// CheckFlow returns the value of a flow of the net of a task.
func CheckFlow(t api.UnwrapTask, flow []int) (int, api.Errno) {
	n, e := NetOf(t)
	if e != api.OK {
		return 0, e
	}
	return CheckFlowOf(n, flow)
}

// Cuts returns the pairs of neighbours that have an excess in a field.
func Cuts(t api.UnwrapTask, u api.PhaseMap) ([][2]int, api.Errno) {
	n, turns, e := turnsOf(t, u)
	if e != api.OK {
		return nil, e
	}
	return pairsWith(n, func(edge api.UnwrapEdge) bool { return excess(edge, turns) != 0 }), api.OK
}

// Undecided returns the pairs of neighbours whose excess depends on the best field that is taken: those whose turns are
// not bound to each other.
func Undecided(t api.UnwrapTask) ([][2]int, api.Errno) {
	n, e := NetOf(t)
	if e != api.OK {
		return nil, e
	}
	classes := classesOf(n)
	return pairsWith(n, func(edge api.UnwrapEdge) bool { return classes[edge.From] != classes[edge.To] }), api.OK
}

// pairsWith returns the ends of the edges for which something is so.
func pairsWith(n api.UnwrapNet, is func(edge api.UnwrapEdge) bool) [][2]int {
	var out [][2]int
	for _, edge := range n.Edges {
		if is(edge) {
			out = append(out, [2]int{edge.From, edge.To})
		}
	}
	return out
}

// turnsOf returns the net of a task and the turns of a field.
func turnsOf(t api.UnwrapTask, u api.PhaseMap) (api.UnwrapNet, []int, api.Errno) {
	n, e := NetOf(t)
	if e != api.OK {
		return api.UnwrapNet{}, nil, e
	}
	if u.Rows != t.Map.Rows || u.Columns != t.Map.Columns || len(u.Phases) != len(t.Map.Phases) {
		return api.UnwrapNet{}, nil, api.ErrShape
	}
	turns := make([]int, len(u.Phases))
	for i, phase := range t.Map.Phases {
		if e := fieldError(phase, u.Phases[i]); e != api.OK {
			return api.UnwrapNet{}, nil, e
		}
		turns[i] = (u.Phases[i] - phase) / api.PhaseTurn
	}
	return n, turns, api.OK
}

// fieldError is the error of a pixel of a field, whose task has such a phase there.
func fieldError(phase, of int) api.Errno {
	if (phase == api.PhaseVoid) != (of == api.PhaseVoid) {
		return api.ErrVoid
	}
	return firstError(phaseError(of), unitError(of-phase))
}

func weightsError(weights []int) api.Errno {
	for _, weight := range weights {
		if e := rangeError(weight, 0, api.MaxNetWeight); e != api.OK {
			return e
		}
	}
	return api.OK
}
