package mesh

import "swath/api"

const half = api.PhaseTurn / 2

// CheckTask returns the error of a task.
func CheckTask(t api.MeshTask) api.Errno {
	_, e := readTask(t)
	return e
}

// Differences returns the difference of each edge.
func Differences(n api.MeshNet, phases []int) ([]int, api.Errno) {
	m, e := withPhases(n, phases)
	if e != api.OK {
		return nil, e
	}
	return m.differences(phases), api.OK
}

// Closures returns the closure of each triangle.
func Closures(n api.MeshNet, phases []int) ([]int, api.Errno) {
	m, e := withPhases(n, phases)
	if e != api.OK {
		return nil, e
	}
	return m.closures(phases), api.OK
}

// CheckTurns returns the cost of right turns, or the first triangle that turns do not close.
func CheckTurns(t api.MeshTask, turns []int) (int, api.Errno) {
	m, e := readTask(t)
	if e != api.OK {
		return 0, e
	}
	if e := turnsError(turns, len(t.Costs)); e != api.OK {
		return 0, e
	}
	for i, sum := range m.around(m.unwrapped(t.Phases, turns)) {
		if sum != 0 {
			return i, api.ErrCycle
		}
	}
	return costOf(t.Costs, turns), api.OK
}

// CheckPotentials returns the bound of right potentials.
func CheckPotentials(t api.MeshTask, potentials []int) (int, api.Errno) {
	m, e := readTask(t)
	if e != api.OK {
		return 0, e
	}
	e = firstError(shapeError(len(potentials), len(m.list)), rangesError(potentials, -api.MaxMeshPotential, api.MaxMeshPotential))
	if e != api.OK {
		return 0, e
	}
	for i, side := range m.sides() {
		if sizeOf(potentialAt(potentials, side[0])-potentialAt(potentials, side[1])) > t.Costs[i] {
			return 0, api.ErrProof
		}
	}
	bound := 0
	for i, closure := range m.closures(t.Phases) {
		bound -= closure * potentials[i]
	}
	return bound, api.OK
}

// Field returns the field of right turns.
func Field(n api.MeshNet, phases, turns []int) ([]int, api.Errno) {
	m, e := withPhases(n, phases)
	if e != api.OK {
		return nil, e
	}
	edges := m.edges()
	if e := turnsError(turns, len(edges)); e != api.OK {
		return nil, e
	}
	steps := m.unwrapped(phases, turns)
	for _, sum := range m.around(steps) {
		if sum != 0 {
			return nil, api.ErrCycle
		}
	}
	return fieldOf(phases, edges, steps), api.OK
}

// fieldOf goes on from the point 0 along edges, one of whose points is known, and the other not.
func fieldOf(phases []int, edges [][2]int, steps []int) []int {
	field, known := make([]int, len(phases)), make([]bool, len(phases))
	field[0], known[0] = phases[0], true
	for again := true; again; {
		again = false
		for i, edge := range edges {
			from, to := edge[0], edge[1]
			if known[from] == known[to] {
				continue
			}
			if known[from] {
				field[to] = field[from] + steps[i]
			} else {
				field[from] = field[to] - steps[i]
			}
			known[from], known[to], again = true, true, true
		}
	}
	return field
}

// readTask returns the net of a task that has no error.
func readTask(t api.MeshTask) (net, api.Errno) {
	m, e := withPhases(t.Net, t.Phases)
	if e != api.OK {
		return net{}, e
	}
	if e := firstError(shapeError(len(t.Costs), len(m.edges())), rangesError(t.Costs, 0, api.MaxMeshCost)); e != api.OK {
		return net{}, e
	}
	return m, api.OK
}

// withPhases returns a net that has no error, as its phases have none.
func withPhases(n api.MeshNet, phases []int) (net, api.Errno) {
	m, e := right(n)
	if e != api.OK {
		return net{}, e
	}
	if e := firstError(shapeError(len(phases), len(m.points)), rangesError(phases, -half, half-1)); e != api.OK {
		return net{}, e
	}
	return m, api.OK
}

func turnsError(turns []int, edges int) api.Errno {
	return firstError(shapeError(len(turns), edges), rangesError(turns, -api.MaxMeshTurns, api.MaxMeshTurns))
}

func (t triangles) differences(phases []int) []int {
	var differences []int
	for _, edge := range t.edges() {
		differences = append(differences, wrapped(phases[edge[1]]-phases[edge[0]]))
	}
	return differences
}

func (t triangles) closures(phases []int) []int {
	closures := t.around(t.differences(phases))
	for i := range closures {
		closures[i] /= api.PhaseTurn
	}
	return closures
}

// unwrapped returns the differences with turns.
func (t triangles) unwrapped(phases, turns []int) []int {
	steps := t.differences(phases)
	for i, turn := range turns {
		steps[i] += turn * api.PhaseTurn
	}
	return steps
}

// around returns, for each triangle, the sum of what its directed edges have, with the opposite sign where it goes along
// an edge backwards.
func (t triangles) around(steps []int) []int {
	sums := make([]int, len(t.list))
	for i, side := range t.sides() {
		if side[0] != outside {
			sums[side[0]] += steps[i]
		}
		if side[1] != outside {
			sums[side[1]] -= steps[i]
		}
	}
	return sums
}

func costOf(costs, turns []int) int {
	cost := 0
	for i, turn := range turns {
		cost += costs[i] * sizeOf(turn)
	}
	return cost
}

// potentialAt is 0 outside.
func potentialAt(potentials []int, triangle int) int {
	if triangle == outside {
		return 0
	}
	return potentials[triangle]
}

// wrapped takes whole turns away from a phase, or adds them.
func wrapped(phase int) int {
	rest := (phase + half) % api.PhaseTurn
	if rest < 0 {
		rest += api.PhaseTurn
	}
	return rest - half
}
