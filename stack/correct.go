package stack

import (
	"swath/api"
	"swath/unwrap"
)

// NetOf returns the net of a task.
func NetOf(t api.StackTask) (api.UnwrapNet, api.Errno) {
	g, e := readTask(t)
	if e != api.OK {
		return api.UnwrapNet{}, e
	}
	n := api.UnwrapNet{Nodes: len(g.Scenes)}
	large := api.OK
	for number, miss := range g.lightest().misses(t.Phases) {
		if miss%api.PhaseTurn != 0 {
			return api.UnwrapNet{}, api.ErrUnit
		}
		jump, pair := miss/api.PhaseTurn, g.Pairs[number]
		large = firstError(large, largeError(sizeOf(jump), api.MaxNetJump))
		n.Edges = append(n.Edges, api.UnwrapEdge{From: pair.First, To: pair.Second, Jump: jump, Weight: t.Weights[number]})
	}
	if large != api.OK {
		return api.UnwrapNet{}, large
	}
	return n, api.OK
}

// Corrections returns best corrections, a flow that proves it, and their cost.
func Corrections(t api.StackTask) ([]int, []int, int, api.Errno) {
	n, e := NetOf(t)
	if e != api.OK {
		return nil, nil, 0, e
	}
	nodes, flow, cost, e := unwrap.SolveNet(n)
	if e != api.OK {
		return nil, nil, 0, e
	}
	turns := make([]int, len(n.Edges))
	for number, edge := range n.Edges {
		turns[number] = nodes[edge.To] - nodes[edge.From] + edge.Jump
	}
	return turns, flow, cost, api.OK
}

// CheckCorrections returns the cost of right corrections.
func CheckCorrections(t api.StackTask, turns []int) (int, api.Errno) {
	g, e := readTask(t)
	if e != api.OK {
		return 0, e
	}
	e = firstError(shapeError(len(turns), len(g.Pairs)), rangesError(turns, -api.MaxNetTurns, api.MaxNetTurns))
	if e != api.OK {
		return 0, e
	}
	cost := 0
	phases := make([]int, len(turns))
	for number, turn := range turns {
		cost += t.Weights[number] * sizeOf(turn)
		phases[number] = t.Phases[number] - turn*api.PhaseTurn
	}
	if len(g.open(phases)) > 0 {
		return 0, api.ErrBreak
	}
	return cost, api.OK
}

// CheckFlow returns the value of a right flow of the net of a task.
func CheckFlow(t api.StackTask, flow []int) (int, api.Errno) {
	n, e := NetOf(t)
	if e != api.OK {
		return 0, e
	}
	return unwrap.CheckFlowOf(n, flow)
}

// Undetermined returns the pairs whose turns depend on the best corrections that are taken: those between scenes whose
// turns are not bound to each other.
func Undetermined(t api.StackTask) ([]int, api.Errno) {
	n, e := NetOf(t)
	if e != api.OK {
		return nil, e
	}
	classes, e := unwrap.NetClasses(n)
	if e != api.OK {
		return nil, e
	}
	var numbers []int
	for number, edge := range n.Edges {
		if classes[edge.From] != classes[edge.To] {
			numbers = append(numbers, number)
		}
	}
	return numbers, api.OK
}
