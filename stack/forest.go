package stack

import (
	"cmp"
	"iter"
	"slices"

	"swath/api"
)

// A forest is a graph of which only some pairs are gone along.
type forest struct {
	graph
	numbers []int
}

// Lightest returns the pairs of the lightest forest, and its length.
func Lightest(s api.StackNet) ([]int, int, api.Errno) {
	g, e := right(s)
	if e != api.OK {
		return nil, 0, e
	}
	f := g.lightest()
	return f.numbers, f.length(), api.OK
}

// CheckForest returns the length of a forest.
func CheckForest(s api.StackNet, forest []int) (int, api.Errno) {
	f, e := readForest(s, forest)
	if e != api.OK {
		return 0, e
	}
	return f.length(), api.OK
}

// readForest returns a forest that has no error, as its stack has none.
func readForest(s api.StackNet, numbers []int) (forest, api.Errno) {
	g, e := right(s)
	if e != api.OK {
		return forest{}, e
	}
	if e := g.forestError(numbers); e != api.OK {
		return forest{}, e
	}
	return forest{g, numbers}, api.OK
}

func (g graph) forestError(numbers []int) api.Errno {
	p := alone(len(g.Scenes))
	for i, number := range numbers {
		if e := missingError(number, len(g.Pairs)); e != api.OK {
			return e
		}
		if i > 0 && number <= numbers[i-1] {
			return api.ErrOrder
		}
		if !p.join(g.Pairs[number]) {
			return api.ErrCycle
		}
	}
	for _, pair := range g.Pairs {
		if p[pair.First] != p[pair.Second] {
			return api.ErrOpen
		}
	}
	return api.OK
}

// lightest takes the shortest pairs first, of equally long ones the first one, as long as they close no cycle.
func (g graph) lightest() forest {
	byLength := make([]int, len(g.Pairs))
	for i := range byLength {
		byLength[i] = i
	}
	slices.SortStableFunc(byLength, func(a, b int) int { return cmp.Compare(g.length(a), g.length(b)) })
	p := alone(len(g.Scenes))
	var numbers []int
	for _, number := range byLength {
		if p.join(g.Pairs[number]) {
			numbers = append(numbers, number)
		}
	}
	slices.Sort(numbers)
	return forest{g, numbers}
}

func (f forest) length() int {
	length := 0
	for _, number := range f.numbers {
		length += f.graph.length(number)
	}
	return length
}

func (f forest) has(number int) bool {
	_, is := slices.BinarySearch(f.numbers, number)
	return is
}

// steps yields the steps from a scene along the forest, with the scenes to which they lead.
func (f forest) steps(scene int) iter.Seq2[api.StackStep, int] {
	return func(yield func(step api.StackStep, to int) bool) {
		for _, number := range f.numbers {
			pair := f.Pairs[number]
			if pair.First == scene && !yield(api.StackStep{Pair: number, Sign: 1}, pair.Second) {
				return
			}
			if pair.Second == scene && !yield(api.StackStep{Pair: number, Sign: -1}, pair.First) {
				return
			}
		}
	}
}

// way returns the steps from a scene to another one, if the forest leads there. As it has no cycles, it is enough not to
// go back along the pair by which one came.
func (f forest) way(from, to int, by api.StackPair) ([]api.StackStep, bool) {
	if from == to {
		return nil, true
	}
	for step, next := range f.steps(from) {
		pair := f.Pairs[step.Pair]
		if pair == by {
			continue
		}
		if rest, leads := f.way(next, to, pair); leads {
			return append([]api.StackStep{step}, rest...), true
		}
	}
	return nil, false
}

// sums returns the phases of scenes: 0 where one begins, and more by those of the pairs that one goes along. They are
// void where one does not come.
func (f forest) sums(phases []int, begins ...int) []int {
	sums := slices.Repeat([]int{api.PhaseVoid}, len(f.Scenes))
	for _, scene := range begins {
		sums[scene] = 0
	}
	reached := slices.Clone(begins)
	for i := 0; i < len(reached); i++ {
		for step, to := range f.steps(reached[i]) {
			if !slices.Contains(reached, to) {
				sums[to] = sums[reached[i]] + step.Sign*phases[step.Pair]
				reached = append(reached, to)
			}
		}
	}
	return sums
}

// misses returns the miss of each pair, if the forest is the lightest one.
func (f forest) misses(phases []int) []int {
	sums := f.sums(phases, f.parts().firsts()...)
	misses := make([]int, len(f.Pairs))
	for number, pair := range f.Pairs {
		misses[number] = phases[number] - sums[pair.Second] + sums[pair.First]
	}
	return misses
}
