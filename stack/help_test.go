package stack_test

import (
	"fmt"
	"math"
	"slices"
	"strconv"
	"testing"

	"swath/api"
)

const void = api.PhaseVoid

// want compares a result and an error with those that are right. A nil slice and an empty one are the same, as they
// are written alike.
func want[T any](t *testing.T, what string, got T, e api.Errno, right T, rightError api.Errno) {
	t.Helper()
	if e != rightError {
		t.Errorf("%s: error %d, want %d", what, e, rightError)
	}
	if fmt.Sprint(got) != fmt.Sprint(right) {
		t.Errorf("%s: %v, want %v", what, got, right)
	}
}

// wantError checks an error, and that a result beside one is zero.
func wantError[T any](t *testing.T, what string, got T, e api.Errno, right api.Errno) {
	t.Helper()
	if e != right {
		t.Errorf("%s: error %d, want %d", what, e, right)
	}
	zeroBeside(t, what, got, e)
}

func zeroBeside[T any](t *testing.T, what string, got T, e api.Errno) {
	t.Helper()
	var zero T
	if e != api.OK && fmt.Sprint(got) != fmt.Sprint(zero) {
		t.Errorf("%s: %v beside the error %d", what, got, e)
	}
}

// pairs returns pairs of such scenes.
func pairs(numbers ...int) []api.StackPair {
	var l []api.StackPair
	for of := range slices.Chunk(numbers, 2) {
		l = append(l, api.StackPair{First: of[0], Second: of[1]})
	}
	return l
}

// walk returns steps with such pairs and signs.
func walk(numbers ...int) []api.StackStep {
	var l []api.StackStep
	for of := range slices.Chunk(numbers, 2) {
		l = append(l, api.StackStep{Pair: of[0], Sign: of[1]})
	}
	return l
}

// scenes returns scenes with such days and baselines, and the names s0, s1 and so on.
func scenes(numbers ...int) []api.StackScene {
	var l []api.StackScene
	for of := range slices.Chunk(numbers, 2) {
		l = append(l, api.StackScene{Name: "s" + strconv.Itoa(len(l)), Day: of[0], Baseline: of[1]})
	}
	return l
}

// alike returns n scenes of one day and baseline with pairs of such scenes.
func alike(n int, numbers ...int) api.StackNet {
	return api.StackNet{Scenes: scenes(make([]int, 2*n)...), Pairs: pairs(numbers...)}
}

// complete returns n scenes with all pairs.
func complete(n int) api.StackNet {
	s := alike(n)
	for first := range n {
		for second := first + 1; second < n; second++ {
			s.Pairs = append(s.Pairs, api.StackPair{First: first, Second: second})
		}
	}
	return s
}

// chain returns n scenes, each with a pair to the next one.
func chain(n int) api.StackNet {
	s := alike(n)
	for first := range n - 1 {
		s.Pairs = append(s.Pairs, api.StackPair{First: first, Second: first + 1})
	}
	return s
}

// example is the stack of the chapter's examples.
func example() api.StackNet {
	return api.StackNet{
		Scenes: []api.StackScene{{Name: "a"}, {Name: "b", Day: 12, Baseline: 100}, {Name: "c", Day: 24, Baseline: -50}, {Name: "d", Day: 36, Baseline: 50}},
		Pairs:  pairs(0, 1, 1, 2, 0, 2, 2, 3),
	}
}

// exampleTask is the task of the second example with other weights.
func exampleTask(weights ...int) api.StackTask {
	return api.StackTask{Net: example(), Phases: []int{1000, 500, 5596, -300}, Weights: weights}
}

// even returns a task with the same weight for all pairs.
func even(s api.StackNet, weight int, phases ...int) api.StackTask {
	return api.StackTask{Net: s, Phases: phases, Weights: slices.Repeat([]int{weight}, len(s.Pairs))}
}

// numbers yields the same numbers in each run, below a bound.
type numbers struct{ state uint64 }

func (r *numbers) below(n int) int {
	r.state = r.state*6364136223846793005 + 1442695040888963407
	return int(r.state>>33) % n
}

// within returns a number from -most to most.
func (r *numbers) within(most int) int { return r.below(2*most+1) - most }

func (r *numbers) list(n, least, most int) []int {
	var l []int
	for range n {
		l = append(l, least+r.below(most-least+1))
	}
	return l
}

// shuffled returns items in another order.
func shuffled[T any](r *numbers, l []T) []T {
	l = slices.Clone(l)
	for i := range l {
		j := r.below(i + 1)
		l[i], l[j] = l[j], l[i]
	}
	return l
}

// stack returns scenes with some pairs, as far as there are so many, in any order. With a small day many pairs are
// equally long.
func (r *numbers) stack(n, most, day int) api.StackNet {
	s := complete(n)
	for i := range s.Scenes {
		s.Scenes[i].Day, s.Scenes[i].Baseline = r.below(day+1), r.within(day)
	}
	s.Pairs = shuffled(r, s.Pairs)
	s.Pairs = s.Pairs[:min(most, len(s.Pairs))]
	return s
}

// forest returns a forest of a stack, any one.
func (r *numbers) forest(s api.StackNet) []int {
	var forest []int
	for _, number := range shuffled(r, upTo(len(s.Pairs))) {
		if isClear(s, append(slices.Clone(forest), number)) {
			forest = append(forest, number)
		}
	}
	slices.Sort(forest)
	return forest
}

// closedWalk returns steps that go anywhere, and come back; none if no pair leads from the scene where they begin.
func (r *numbers) closedWalk(s api.StackNet, most int) []api.StackStep {
	begin := r.below(len(s.Scenes))
	var steps []api.StackStep
	for at := begin; len(steps) < most; {
		from := stepsFrom(s, at)
		if len(from) == 0 {
			return nil
		}
		step := from[r.below(len(from))]
		steps, at = append(steps, step), endOf(s, step)
		if at == begin && r.below(3) > 0 {
			return steps
		}
	}
	for _, step := range slices.Backward(slices.Clone(steps)) {
		steps = append(steps, api.StackStep{Pair: step.Pair, Sign: -step.Sign})
	}
	return steps
}

// closing returns phases of pairs that close, and those of the scenes that they come from.
func (r *numbers) closing(s api.StackNet, most int) (phases, of []int) {
	of = r.list(len(s.Scenes), -most, most)
	for _, pair := range s.Pairs {
		phases = append(phases, of[pair.Second]-of[pair.First])
	}
	return phases, of
}

// task returns a task all of whose misses are whole turns, of at most so many turns for each pair of a way around.
func (r *numbers) task(s api.StackNet, turns, weight int) api.StackTask {
	phases, _ := r.closing(s, 5000)
	for i := range phases {
		phases[i] += api.PhaseTurn * r.within(turns)
	}
	return api.StackTask{Net: s, Phases: phases, Weights: r.list(len(phases), 0, weight)}
}

func upTo(n int) []int {
	var l []int
	for i := range n {
		l = append(l, i)
	}
	return l
}

func size(n int) int { return max(n, -n) }

func lengthOf(s api.StackNet, numbers ...int) int {
	length := 0
	for _, number := range numbers {
		first, second := s.Scenes[s.Pairs[number].First], s.Scenes[s.Pairs[number].Second]
		length += size(first.Day-second.Day) + size(first.Baseline-second.Baseline)
	}
	return length
}

// stepsFrom returns all steps from a scene.
func stepsFrom(s api.StackNet, scene int) []api.StackStep {
	var steps []api.StackStep
	for number, pair := range s.Pairs {
		if pair.First == scene {
			steps = append(steps, api.StackStep{Pair: number, Sign: 1})
		}
		if pair.Second == scene {
			steps = append(steps, api.StackStep{Pair: number, Sign: -1})
		}
	}
	return steps
}

func beginOf(s api.StackNet, step api.StackStep) int {
	if step.Sign > 0 {
		return s.Pairs[step.Pair].First
	}
	return s.Pairs[step.Pair].Second
}

func endOf(s api.StackNet, step api.StackStep) int {
	if step.Sign > 0 {
		return s.Pairs[step.Pair].Second
	}
	return s.Pairs[step.Pair].First
}

// with returns a stack with some of its pairs.
func with(s api.StackNet, numbers []int) api.StackNet {
	out := api.StackNet{Scenes: s.Scenes}
	for _, number := range numbers {
		out.Pairs = append(out.Pairs, s.Pairs[number])
	}
	return out
}

// partsOf floods each part from its least scene.
func partsOf(s api.StackNet) []int {
	parts := slices.Repeat([]int{-1}, len(s.Scenes))
	next := 0
	for scene := range parts {
		if parts[scene] >= 0 {
			continue
		}
		for flood := []int{scene}; len(flood) > 0; flood = flood[1:] {
			parts[flood[0]] = next
			for _, step := range stepsFrom(s, flood[0]) {
				if to := endOf(s, step); parts[to] < 0 {
					flood = append(flood, to)
				}
			}
		}
		next++
	}
	return parts
}

func howMany(parts []int) int {
	if len(parts) == 0 {
		return 0
	}
	return slices.Max(parts) + 1
}

// isClear tells whether pairs close no cycle: then each of them makes one part less.
func isClear(s api.StackNet, numbers []int) bool {
	return howMany(partsOf(with(s, numbers))) == len(s.Scenes)-len(numbers)
}

func isForest(s api.StackNet, numbers []int) bool {
	return isClear(s, numbers) && fmt.Sprint(partsOf(with(s, numbers))) == fmt.Sprint(partsOf(s))
}

// subsets returns all lists of ascending numbers below n.
func subsets(n int) [][]int {
	var out [][]int
	for bits := range 1 << n {
		var l []int
		for i := range n {
			if bits>>i&1 == 1 {
				l = append(l, i)
			}
		}
		out = append(out, l)
	}
	return out
}

// lightestOf tries all sets of pairs of a small stack.
func lightestOf(s api.StackNet) []int {
	var best []int
	found := false
	for _, forest := range subsets(len(s.Pairs)) {
		if !isForest(s, forest) {
			continue
		}
		less := lengthOf(s, forest...) - lengthOf(s, best...)
		if !found || less < 0 || less == 0 && slices.Compare(forest, best) < 0 {
			best, found = forest, true
		}
	}
	return best
}

// isLightest tells whether no pair of a forest can be exchanged for one that makes it shorter, or as long and earlier.
func isLightest(s api.StackNet, forest []int) bool {
	for number := range s.Pairs {
		if slices.Contains(forest, number) {
			continue
		}
		for _, step := range cycleOf(s, forest, number)[1:] {
			is, other := lengthOf(s, step.Pair), lengthOf(s, number)
			if is > other || is == other && step.Pair > number {
				return false
			}
		}
	}
	return isForest(s, forest)
}

// cycleOf finds the way back from scene to scene: it floods a forest from where the way ends, and then follows the
// steps of the flood back.
func cycleOf(s api.StackNet, forest []int, number int) []api.StackStep {
	pair := s.Pairs[number]
	steps := map[int]api.StackStep{}
	for flood := []int{pair.First}; len(flood) > 0; flood = flood[1:] {
		for _, step := range stepsFrom(s, flood[0]) {
			to := endOf(s, step)
			if _, is := steps[to]; !is && to != pair.First && slices.Contains(forest, step.Pair) {
				steps[to] = api.StackStep{Pair: step.Pair, Sign: -step.Sign}
				flood = append(flood, to)
			}
		}
	}
	cycle := []api.StackStep{{Pair: number, Sign: 1}}
	for at := pair.Second; at != pair.First; at = endOf(s, steps[at]) {
		cycle = append(cycle, steps[at])
	}
	return cycle
}

func cyclesOf(s api.StackNet, forest []int) [][]api.StackStep {
	var cycles [][]api.StackStep
	for number := range s.Pairs {
		if !slices.Contains(forest, number) {
			cycles = append(cycles, cycleOf(s, forest, number))
		}
	}
	return cycles
}

func closureOf(phases []int, cycle []api.StackStep) int {
	closure := 0
	for _, step := range cycle {
		closure += step.Sign * phases[step.Pair]
	}
	return closure
}

// missesOf finds misses as closures; those of the pairs of the forest are 0.
func missesOf(s api.StackNet, forest, phases []int) []int {
	misses := make([]int, len(s.Pairs))
	for _, cycle := range cyclesOf(s, forest) {
		misses[cycle[0].Pair] = closureOf(phases, cycle)
	}
	return misses
}

// sumsOf goes along a forest from a scene; scenes of other parts are void.
func sumsOf(s api.StackNet, forest, phases []int, from int) []int {
	sums := slices.Repeat([]int{void}, len(s.Scenes))
	sums[from] = 0
	for range s.Scenes {
		for _, number := range forest {
			first, second := &sums[s.Pairs[number].First], &sums[s.Pairs[number].Second]
			switch {
			case *first != void:
				*second = *first + phases[number]
			case *second != void:
				*first = *second - phases[number]
			}
		}
	}
	return sums
}

func costOf(weights, turns []int) int {
	cost := 0
	for i, turn := range turns {
		cost += weights[i] * size(turn)
	}
	return cost
}

// valueOf returns the value of a flow with such jumps, and whether it is right.
func valueOf(t api.StackTask, jumps, flow []int) (int, bool) {
	value := 0
	surplus := make([]int, len(t.Net.Scenes))
	for i, pair := range t.Net.Pairs {
		if size(flow[i]) > t.Weights[i] {
			return 0, false
		}
		value += flow[i] * jumps[i]
		surplus[pair.First] -= flow[i]
		surplus[pair.Second] += flow[i]
	}
	return value, !slices.ContainsFunc(surplus, func(n int) bool { return n != 0 })
}

// phasesBehind returns the phases behind corrections.
func phasesBehind(t api.StackTask, turns []int) []int {
	phases := slices.Clone(t.Phases)
	for i, turn := range turns {
		phases[i] -= 4096 * turn
	}
	return phases
}

// wrong is an argument with its error, and the number beside it.
type wrong[T any] struct {
	x      T
	number int
	e      api.Errno
}

func namedScenes(names ...string) []api.StackScene {
	var l []api.StackScene
	for _, name := range names {
		l = append(l, api.StackScene{Name: name})
	}
	return l
}

func wrongScenes() map[string]wrong[[]api.StackScene] {
	out := map[string]wrong[[]api.StackScene]{
		"61 scenes":                    {scenes(make([]int, 122)...), 0, api.ErrLarge},
		"61 wrong scenes":              {make([]api.StackScene, 61), 0, api.ErrLarge},
		"no name":                      {namedScenes("a", ""), 1, api.ErrName},
		"a digit in front":             {namedScenes("1a"), 0, api.ErrName},
		"a line in front":              {namedScenes("a", "b", "-a"), 2, api.ErrName},
		"13 letters":                   {namedScenes("abcdefghijklm"), 0, api.ErrName},
		"a blank":                      {namedScenes("a", "a b"), 1, api.ErrName},
		"a line feed":                  {namedScenes("a\n"), 0, api.ErrName},
		"another sign":                 {namedScenes("a_b"), 0, api.ErrName},
		"a foreign letter":             {namedScenes("a\u00e4"), 0, api.ErrName},
		"a byte of 0":                  {namedScenes("a\x00"), 0, api.ErrName},
		"a name twice":                 {namedScenes("a", "b", "c", "b"), 3, api.ErrExists},
		"a name twice, wrong day":      {[]api.StackScene{{Name: "a"}, {Name: "a", Day: -1}}, 1, api.ErrExists},
		"no name, wrong day":           {[]api.StackScene{{Name: "a"}, {Day: -1}}, 1, api.ErrName},
		"a wrong day, then a name":     {[]api.StackScene{{Name: "a", Day: -1}, {Name: ""}}, 0, api.ErrRange},
		"a wrong baseline, then a day": {scenes(0, 100001, -1, 0), 0, api.ErrRange},
		"the last of 60":               {append(scenes(make([]int, 118)...), api.StackScene{Name: "s0"}), 59, api.ErrExists},
	}
	for _, n := range []int{-1, 100001, math.MinInt, math.MaxInt} {
		out[fmt.Sprint("the day ", n)] = wrong[[]api.StackScene]{scenes(0, 0, n, 0), 1, api.ErrRange}
	}
	for _, n := range []int{-100001, 100001, math.MinInt, math.MaxInt} {
		out[fmt.Sprint("the baseline ", n)] = wrong[[]api.StackScene]{scenes(0, 0, 0, 0, 0, n), 2, api.ErrRange}
	}
	return out
}

// wrongStacks are those with wrong scenes, too.
func wrongStacks() map[string]wrong[api.StackNet] {
	many := alike(60)
	many.Pairs = make([]api.StackPair, 201)
	most := complete(21)
	out := map[string]wrong[api.StackNet]{
		"210 pairs":              {most, 0, api.ErrLarge},
		"201 pairs":              {with(most, upTo(201)), 0, api.ErrLarge},
		"201 wrong pairs":        {many, 0, api.ErrLarge},
		"no scenes":              {api.StackNet{Pairs: pairs(0, 1)}, 0, api.ErrMissing},
		"no first scene":         {alike(3, 0, 1, 3, 1), 1, api.ErrMissing},
		"first below 0":          {alike(3, 0, 1, 0, 2, -1, 1), 2, api.ErrMissing},
		"no second scene":        {alike(3, 0, 3), 0, api.ErrMissing},
		"second below 0":         {alike(3, 0, 1, 2, -1), 1, api.ErrMissing},
		"the least number":       {alike(3, math.MinInt, 1), 0, api.ErrMissing},
		"the greatest number":    {alike(3, 1, math.MaxInt), 0, api.ErrMissing},
		"a scene with itself":    {alike(3, 0, 1, 1, 1), 1, api.ErrOrder},
		"a wrong order":          {alike(3, 0, 1, 0, 2, 2, 1), 2, api.ErrOrder},
		"a pair turned over":     {alike(3, 0, 1, 1, 0), 1, api.ErrOrder},
		"a pair twice":           {alike(3, 0, 1, 0, 2, 1, 2, 0, 2), 3, api.ErrDouble},
		"the last of 200":        {api.StackNet{Scenes: most.Scenes, Pairs: append(slices.Clone(most.Pairs[:199]), most.Pairs[0])}, 199, api.ErrDouble},
		"twice, then missing":    {alike(3, 0, 1, 0, 1, 0, 9), 1, api.ErrDouble},
		"missing, then an order": {alike(3, 0, 9, 2, 1), 0, api.ErrMissing},
		"an order, then twice":   {alike(3, 0, 1, 2, 1, 0, 1), 1, api.ErrOrder},
	}
	for what, x := range wrongScenes() {
		out["scenes: "+what] = wrong[api.StackNet]{api.StackNet{Scenes: x.x, Pairs: pairs(0, 0)}, x.number, x.e}
		out["scenes, and 201 pairs: "+what] = wrong[api.StackNet]{api.StackNet{Scenes: x.x, Pairs: make([]api.StackPair, 201)}, x.number, x.e}
	}
	return out
}

// anyStacks are right ones, up to as large as they may be.
func anyStacks() map[string]api.StackNet {
	r := numbers{1}
	edge := api.StackNet{Scenes: scenes(0, -100000, 100000, 100000, 100000, -100000), Pairs: pairs(0, 2, 1, 2, 0, 1)}
	edge.Scenes[0].Name, edge.Scenes[1].Name, edge.Scenes[2].Name = "abcdefghijkl", "A-0-Z-9-z--", "x"
	out := map[string]api.StackNet{
		"nothing":            {},
		"one scene":          alike(1),
		"two scenes":         alike(2),
		"one pair":           alike(2, 0, 1),
		"the example":        example(),
		"the far edge":       edge,
		"60 scenes":          alike(60),
		"a chain":            chain(60),
		"all pairs":          complete(20),
		"two parts":          alike(6, 3, 5, 0, 4, 1, 5, 1, 3, 0, 2),
		"200 pairs":          r.stack(60, 200, 100000),
		"200 pairs of a day": r.stack(60, 200, 0),
		"200 near pairs":     r.stack(60, 200, 2),
		"200 close pairs":    r.stack(21, 200, 9),
	}
	for i := range 20 {
		out[fmt.Sprint("a stack ", i)] = r.stack(1+r.below(60), r.below(201), 1+r.below(300))
	}
	return out
}

// smallStacks have few pairs, so that all sets of them can be tried.
func smallStacks(seed uint64) []api.StackNet {
	r := numbers{seed}
	out := []api.StackNet{{}, alike(1), example(), complete(4), alike(6, 3, 5, 0, 4, 1, 5, 1, 3, 0, 2)}
	for range 80 {
		out = append(out, r.stack(1+r.below(7), r.below(10), r.below(5)))
	}
	return out
}
