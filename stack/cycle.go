package stack

import (
	"cmp"
	"iter"
	"slices"

	"swath/api"
)

// CycleOf returns the cycle of a pair.
func CycleOf(s api.StackNet, forest []int, pair int) ([]api.StackStep, api.Errno) {
	f, e := readForest(s, forest)
	if e != api.OK {
		return nil, e
	}
	if e := missingError(pair, len(f.Pairs)); e != api.OK {
		return nil, e
	}
	if f.has(pair) {
		return nil, api.ErrDouble
	}
	return f.cycle(pair), api.OK
}

// Cycles returns the cycles of all pairs that are not in a forest.
func Cycles(s api.StackNet, forest []int) ([][]api.StackStep, api.Errno) {
	f, e := readForest(s, forest)
	if e != api.OK {
		return nil, e
	}
	return slices.Collect(f.cycles()), api.OK
}

// Triangles returns the walks around all three scenes with pairs between them.
func Triangles(s api.StackNet) ([][]api.StackStep, api.Errno) {
	g, e := right(s)
	if e != api.OK {
		return nil, e
	}
	triangles := slices.Collect(g.triangles())
	if e := largeError(len(triangles), api.MaxCycles); e != api.OK {
		return nil, e
	}
	return triangles, api.OK
}

// CheckCycle accepts closed walks.
func CheckCycle(s api.StackNet, cycle []api.StackStep) api.Errno {
	g, e := right(s)
	if e != api.OK {
		return e
	}
	return g.cycleError(cycle)
}

func (f forest) cycle(number int) []api.StackStep {
	pair := f.Pairs[number]
	back, _ := f.way(pair.Second, pair.First, pair)
	return append([]api.StackStep{{Pair: number, Sign: 1}}, back...)
}

// cycles yields the cycles of the pairs that are not in the forest.
func (f forest) cycles() iter.Seq[[]api.StackStep] {
	return func(yield func(cycle []api.StackStep) bool) {
		for number := range f.Pairs {
			if !f.has(number) && !yield(f.cycle(number)) {
				return
			}
		}
	}
}

// triangles yields the walks around three scenes by their first, then their second, then their third scene.
func (g graph) triangles() iter.Seq[[]api.StackStep] {
	return func(yield func(walk []api.StackStep) bool) {
		for _, first := range g.ascending() {
			for c := first.Second + 1; c < len(g.Scenes); c++ {
				second, isSecond := g.known[api.StackPair{First: first.Second, Second: c}]
				third, isThird := g.known[api.StackPair{First: first.First, Second: c}]
				walk := []api.StackStep{{Pair: g.known[first], Sign: 1}, {Pair: second, Sign: 1}, {Pair: third, Sign: -1}}
				if isSecond && isThird && !yield(walk) {
					return
				}
			}
		}
	}
}

// ascending returns the pairs by their first, then their second scene.
func (g graph) ascending() []api.StackPair {
	return slices.SortedFunc(slices.Values(g.Pairs), func(a, b api.StackPair) int {
		return cmp.Or(cmp.Compare(a.First, b.First), cmp.Compare(a.Second, b.Second))
	})
}

func (g graph) cycleError(cycle []api.StackStep) api.Errno {
	if len(cycle) == 0 {
		return api.ErrShape
	}
	if e := largeError(len(cycle), api.MaxCycles); e != api.OK {
		return e
	}
	for i, step := range cycle {
		if e := missingError(step.Pair, len(g.Pairs)); e != api.OK {
			return e
		}
		if step.Sign != 1 && step.Sign != -1 {
			return api.ErrRange
		}
		if i > 0 && g.begin(step) != g.end(cycle[i-1]) {
			return api.ErrGap
		}
	}
	if g.begin(cycle[0]) != g.end(cycle[len(cycle)-1]) {
		return api.ErrOpen
	}
	return api.OK
}

// begin returns the scene from which a step leads.
func (g graph) begin(step api.StackStep) int {
	if step.Sign == 1 {
		return g.Pairs[step.Pair].First
	}
	return g.Pairs[step.Pair].Second
}

func (g graph) end(step api.StackStep) int {
	return g.begin(api.StackStep{Pair: step.Pair, Sign: -step.Sign})
}
