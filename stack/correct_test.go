package stack_test

import (
	"fmt"
	"math"
	"slices"
	"testing"

	"swath/api"
	"swath/stack"
)

func TestP7_6Examples(t *testing.T) {
	task := exampleTask(3, 2, 1, 5)
	n, e := stack.NetOf(task)
	want(t, "the net", n, e, api.UnwrapNet{Nodes: 4, Edges: []api.UnwrapEdge{
		{From: 0, To: 1, Weight: 3}, {From: 1, To: 2, Jump: -1, Weight: 2}, {From: 0, To: 2, Weight: 1}, {From: 2, To: 3, Weight: 5},
	}}, api.OK)
	turns, flow, cost, e := stack.Corrections(task)
	want(t, "the corrections", turns, e, []int{0, 0, 1, 0}, api.OK)
	want(t, "the flow", flow, e, []int{-1, -1, 1, 0}, api.OK)
	want(t, "the cost", cost, e, 1, api.OK)
	value, e := stack.CheckFlow(task, []int{-1, -1, 1, 0})
	want(t, "the value", value, e, 1, api.OK)
	for _, x := range []struct {
		turns []int
		cost  int
	}{{[]int{0, 0, 1, 0}, 1}, {[]int{0, -1, 0, 0}, 2}, {[]int{-1, 0, 0, 0}, 3}, {[]int{0, 0, 1, -7}, 36}, {[]int{5, -5, 1, 0}, 26}} {
		cost, e := stack.CheckCorrections(task, x.turns)
		want(t, fmt.Sprint(x.turns), cost, e, x.cost, api.OK)
	}
	l, e := stack.Undetermined(task)
	want(t, "nothing undetermined", l, e, nil, api.OK)
	l, e = stack.Undetermined(exampleTask(1, 1, 1, 5))
	want(t, "the third example", l, e, []int{0, 1, 2}, api.OK)
	_, _, cost, e = stack.Corrections(exampleTask(1, 1, 1, 5))
	want(t, "the third example", cost, e, 1, api.OK)
}

// wrongNets are right tasks without a net; the last ones have a miss of at most 1000 turns, and one.
func wrongNets() map[string]wrong[api.StackTask] {
	pair := alike(3, 0, 1, 1, 2, 0, 2) // the miss is that of the last pair
	two := alike(6, 0, 1, 1, 2, 0, 2, 3, 4, 4, 5, 3, 5)
	third := exampleTask(3, 2, 1, 5)
	third.Phases[1] = 501
	return map[string]wrong[api.StackTask]{
		"the fifth example":          {third, 0, api.ErrUnit},
		"a part of a turn":           {even(pair, 1, 0, 0, 1), 0, api.ErrUnit},
		"a part less":                {even(pair, 1, 0, 0, -1), 0, api.ErrUnit},
		"half a turn":                {even(pair, 0, 1000, 1048, 0), 0, api.ErrUnit},
		"nearly a turn":              {even(pair, 1, 4095, 0, 0), 0, api.ErrUnit},
		"1001 turns":                 {even(pair, 1, 0, 0, 1001*4096), 0, api.ErrLarge},
		"1001 turns less":            {even(pair, 1, 0, 0, -1001*4096), 0, api.ErrLarge},
		"1001 turns of two":          {even(pair, 1, -501*4096, -500*4096, 0), 0, api.ErrLarge},
		"as many as there may be":    {even(pair, 0, -24414*4096, -24414*4096, 24414*4096), 0, api.ErrLarge},
		"a part more than 1001":      {even(pair, 1, 0, 0, 1001*4096+1), 0, api.ErrUnit},
		"a part more than 1000":      {even(pair, 1, 0, 0, 1000*4096+1), 0, api.ErrUnit},
		"a part behind 1001 turns":   {even(two, 1, 0, 0, 1001*4096, 0, 0, 1), 0, api.ErrUnit},
		"a part ahead of 1001 turns": {even(two, 1, 0, 0, 1, 0, 0, 1001*4096), 0, api.ErrUnit},
		"1001 turns behind one":      {even(two, 1, 0, 0, 4096, 0, 0, 1001*4096), 0, api.ErrLarge},
		"1001 turns ahead of one":    {even(two, 1, 0, 0, 1001*4096, 0, 0, 4096), 0, api.ErrLarge},
	}
}

func TestP7_6NetOf(t *testing.T) {
	for what, x := range wrongNets() {
		n, e := stack.NetOf(x.x)
		wantError(t, what, n, e, x.e)
		turns, flow, cost, e := stack.Corrections(x.x)
		wantError(t, what+", turns", turns, e, x.e)
		wantError(t, what+", flow", flow, e, x.e)
		wantError(t, what+", cost", cost, e, x.e)
		value, e := stack.CheckFlow(x.x, []int{1 << 62})
		wantError(t, what+", value", value, e, x.e)
		l, e := stack.Undetermined(x.x)
		wantError(t, what+", undetermined", l, e, x.e)
	}
	for _, jump := range []int{1000, -1000} {
		n, e := stack.NetOf(even(alike(3, 0, 1, 1, 2, 0, 2), 9, 0, 0, jump*4096))
		want(t, "1000 turns", n, e, api.UnwrapNet{Nodes: 3, Edges: []api.UnwrapEdge{{From: 0, To: 1, Weight: 9}, {From: 1, To: 2, Weight: 9}, {From: 0, To: 2, Jump: jump, Weight: 9}}}, api.OK)
	}
	n, e := stack.NetOf(api.StackTask{Net: alike(5)})
	want(t, "no pairs", n, e, api.UnwrapNet{Nodes: 5}, api.OK)
	n, e = stack.NetOf(even(chain(3), 0, 1, -99999999))
	want(t, "a chain", n, e, api.UnwrapNet{Nodes: 3, Edges: []api.UnwrapEdge{{From: 0, To: 1}, {From: 1, To: 2}}}, api.OK)
}

// tasks are right ones with a net, up to as large as they may be.
func tasks() map[string]api.StackTask {
	out := map[string]api.StackTask{
		"nothing":      {},
		"the example":  exampleTask(3, 2, 1, 5),
		"no weights":   exampleTask(0, 0, 0, 0),
		"even weights": exampleTask(1, 1, 1, 1),
		"part weights": exampleTask(0, 1, 1, 0),
	}
	for what, s := range anyStacks() {
		r := numbers{uint64(len(s.Pairs))}
		out[what+", few turns"] = r.task(s, 1, 9)
		out[what+", even"] = even(s, 1, r.task(s, 2, 9).Phases...)
		out[what+", many turns"] = r.task(s, 16, 1000)
		out[what+", weights of 0"] = r.task(s, 5, 1)
		closing, _ := r.closing(s, 1000000)
		out[what+", closing"] = even(s, 1000, closing...)
	}
	return out
}

func TestP7_6NetOfManyTasks(t *testing.T) {
	for what, task := range tasks() {
		s := task.Net
		forest, _, _ := stack.Lightest(s)
		right := api.UnwrapNet{Nodes: len(s.Scenes)}
		for i, miss := range missesOf(s, forest, task.Phases) {
			right.Edges = append(right.Edges, api.UnwrapEdge{From: s.Pairs[i].First, To: s.Pairs[i].Second, Jump: miss / 4096, Weight: task.Weights[i]})
		}
		n, e := stack.NetOf(task)
		want(t, what, n, e, right, api.OK)
	}
}

// solved calls Corrections and checks what it returns: the flow and the turns prove each other.
func solved(t *testing.T, what string, task api.StackTask) (turns, flow []int, cost int) {
	t.Helper()
	turns, flow, cost, e := stack.Corrections(task)
	if e != api.OK || len(turns) != len(task.Phases) || len(flow) != len(task.Phases) {
		t.Fatalf("%s: error %d, turns %v, flow %v", what, e, turns, flow)
	}
	forest, _, _ := stack.Lightest(task.Net)
	jumps := missesOf(task.Net, forest, task.Phases)
	for i := range jumps {
		jumps[i] /= 4096
	}
	value, right := valueOf(task, jumps, flow)
	if !right || value != cost || costOf(task.Weights, turns) != cost {
		t.Fatalf("%s: cost %d, turns cost %d, flow %v is worth %d", what, cost, costOf(task.Weights, turns), right, value)
	}
	checked, e := stack.CheckFlow(task, flow)
	want(t, what, checked, e, cost, api.OK)
	checked, e = stack.CheckCorrections(task, turns)
	want(t, what, checked, e, cost, api.OK)
	for _, cycle := range cyclesOf(task.Net, forest) {
		if closure := closureOf(phasesBehind(task, turns), cycle); closure != 0 {
			t.Fatalf("%s: behind %v the closure of %v is %d", what, turns, cycle, closure)
		}
	}
	return turns, flow, cost
}

func TestP7_6CorrectionsOfManyTasks(t *testing.T) {
	for what, task := range tasks() {
		solved(t, what, task)
	}
	s := alike(3, 0, 1, 1, 2, 0, 2)
	for _, x := range []struct{ jump, first, second, third, cost int }{{1000, 1, 2, 3, 1000}, {-1000, 1000, 999, 1000, 999000}, {1000, 0, 9, 9, 0}, {0, 9, 9, 9, 0}} {
		_, _, cost := solved(t, fmt.Sprint(x), api.StackTask{Net: s, Phases: []int{7, -9, x.jump*4096 - 2}, Weights: []int{x.first, x.second, x.third}})
		want(t, fmt.Sprint(x), cost, api.OK, x.cost, api.OK)
	}
}

// smallTasks are tasks of at most five scenes all of whose misses are at most one turn in size, so that in best
// corrections no scene of a part has more than four turns more than another one.
func smallTasks(seed uint64) []api.StackTask {
	r := numbers{seed}
	var out []api.StackTask
	for range 40 {
		s := r.stack(2+r.below(4), 1+r.below(9), r.below(3))
		phases, _ := r.closing(s, 10000)
		forest := lightestOf(s)
		for i := range phases {
			if !slices.Contains(forest, i) {
				phases[i] += 4096 * r.within(1)
			}
		}
		out = append(out, api.StackTask{Net: s, Phases: phases, Weights: r.list(len(phases), r.below(2), 1+r.below(3))})
	}
	return out
}

// bestCorrections tries all turns of scenes of at most four, and returns what the corrections cost, and those that cost
// least.
func bestCorrections(task api.StackTask) (best [][]int, cost int) {
	s := task.Net
	jumps := missesOf(s, lightestOf(s), task.Phases)
	cost = math.MaxInt
	of := make([]int, len(s.Scenes))
	turns := make([]int, len(jumps))
	var try func(scene int)
	try = func(scene int) {
		if scene < len(of) {
			for of[scene] = -4; of[scene] <= 4; of[scene]++ {
				if scene > 0 || of[scene] == 0 {
					try(scene + 1)
				}
			}
			return
		}
		for i, pair := range s.Pairs {
			turns[i] = of[pair.Second] - of[pair.First] + jumps[i]/4096
		}
		if c := costOf(task.Weights, turns); c < cost {
			best, cost = nil, c
		}
		if costOf(task.Weights, turns) == cost {
			best = append(best, slices.Clone(turns))
		}
	}
	try(0)
	return best, cost
}

func TestP7_6CorrectionsOfSmallTasks(t *testing.T) {
	for _, task := range smallTasks(12) {
		best, least := bestCorrections(task)
		turns, _, cost := solved(t, fmt.Sprint(task), task)
		want(t, fmt.Sprint(task), cost, api.OK, least, api.OK)
		var right []int
		for i := range turns {
			if slices.ContainsFunc(best, func(other []int) bool { return other[i] != best[0][i] }) {
				right = append(right, i)
			}
		}
		l, e := stack.Undetermined(task)
		want(t, fmt.Sprint(task), l, e, right, api.OK)
	}
}

// The turns of a pair are determined if the flow that proves best corrections leaves them no way to be more, or less.
func TestP7_6UndeterminedOfManyTasks(t *testing.T) {
	for what, task := range tasks() {
		_, flow, _ := solved(t, what, task)
		most := mostBetween(task, flow)
		var right []int
		for i, pair := range task.Net.Pairs {
			if up, down := most[pair.First][pair.Second], most[pair.Second][pair.First]; up == far || down == far || up != -down {
				right = append(right, i)
			}
		}
		l, e := stack.Undetermined(task)
		want(t, what, l, e, right, api.OK)
	}
}

const far = math.MaxInt / 4

// mostBetween finds, for each two scenes, the greatest difference of turns of best corrections, far if nothing bounds it.
func mostBetween(task api.StackTask, flow []int) [][]int {
	n, _ := stack.NetOf(task)
	most := make([][]int, n.Nodes)
	for a := range most {
		most[a] = slices.Repeat([]int{far}, n.Nodes)
		most[a][a] = 0
	}
	for i, edge := range n.Edges {
		if flow[i] < edge.Weight {
			most[edge.From][edge.To] = min(most[edge.From][edge.To], -edge.Jump)
		}
		if flow[i] > -edge.Weight {
			most[edge.To][edge.From] = min(most[edge.To][edge.From], edge.Jump)
		}
	}
	for b := range most {
		for a := range most {
			for c := range most {
				if most[a][b] < far && most[b][c] < far {
					most[a][c] = min(most[a][c], most[a][b]+most[b][c])
				}
			}
		}
	}
	return most
}

func TestP7_6UndeterminedPairsOfWeight0(t *testing.T) {
	bridge := alike(4, 0, 1, 2, 3, 1, 2)
	for _, x := range []struct{ weights, want []int }{
		{[]int{1, 1, 1}, nil}, {[]int{1, 1, 0}, []int{2}}, {[]int{0, 0, 0}, []int{0, 1, 2}}, {[]int{0, 1, 0}, []int{0, 2}},
	} {
		l, e := stack.Undetermined(api.StackTask{Net: bridge, Phases: []int{5, 6, 7}, Weights: x.weights})
		want(t, fmt.Sprint("bridges ", x.weights), l, e, x.want, api.OK)
	}
	ring := alike(3, 0, 1, 1, 2, 0, 2)
	for _, x := range []struct{ weights, want []int }{
		{[]int{0, 1, 1}, nil}, {[]int{0, 0, 1}, []int{0, 1}}, {[]int{0, 0, 0}, []int{0, 1, 2}}, {[]int{1, 1, 0}, nil},
	} {
		l, e := stack.Undetermined(api.StackTask{Net: ring, Phases: []int{5, 6, 4107}, Weights: x.weights})
		want(t, fmt.Sprint("a ring ", x.weights), l, e, x.want, api.OK)
	}
}

func TestP7_6CheckCorrections(t *testing.T) {
	task := exampleTask(3, 2, 1, 5)
	for what, x := range map[string]wrong[[]int]{
		"none":                    {nil, 0, api.ErrShape},
		"one for each scene":      {make([]int, 5), 0, api.ErrShape},
		"a number missing":        {[]int{0, 0, 1}, 0, api.ErrShape},
		"a great one, none":       {[]int{1000001}, 0, api.ErrShape},
		"too many turns":          {[]int{0, 0, 1, 1000001}, 0, api.ErrRange},
		"too many less":           {[]int{0, 0, 1, -1000001}, 0, api.ErrRange},
		"the least number":        {[]int{0, 0, math.MinInt, 0}, 0, api.ErrRange},
		"the greatest number":     {[]int{math.MaxInt, 0, 0, 0}, 0, api.ErrRange},
		"wrong, and too many":     {[]int{0, 0, 0, 1000001}, 0, api.ErrRange},
		"turns of 2 to the 52":    {[]int{1 << 52, 0, 1, 0}, 0, api.ErrRange},
		"no turns":                {[]int{0, 0, 0, 0}, 0, api.ErrBreak},
		"two turns":               {[]int{0, 0, 2, 0}, 0, api.ErrBreak},
		"a turn the other way":    {[]int{0, 0, -1, 0}, 0, api.ErrBreak},
		"a turn at a bridge":      {[]int{0, 0, 0, 1}, 0, api.ErrBreak},
		"a turn at another place": {[]int{1, 0, 0, 0}, 0, api.ErrBreak},
	} {
		cost, e := stack.CheckCorrections(task, x.x)
		wantError(t, what, cost, e, x.e)
	}
	for _, n := range []int{1000000, -1000000} {
		cost, e := stack.CheckCorrections(exampleTask(3, 2, 1, 1000), []int{0, 0, 1, n})
		want(t, "as many turns as there may be", cost, e, 1000000001, api.OK)
	}
	long := api.StackTask{Net: chain(60), Phases: slices.Repeat([]int{-api.MaxPhase}, 59), Weights: slices.Repeat([]int{1000}, 59)}
	cost, e := stack.CheckCorrections(long, slices.Repeat([]int{1000000}, 59))
	want(t, "a long chain", cost, e, 59000000000, api.OK)
}

// Corrections may be right where a net would be too large, and are not where a miss is no whole number of turns.
func TestP7_6CheckCorrectionsWithoutNet(t *testing.T) {
	for what, x := range wrongNets() {
		forest, _, _ := stack.Lightest(x.x.Net)
		misses := missesOf(x.x.Net, forest, x.x.Phases)
		for i := range misses {
			misses[i] /= 4096
		}
		cost, e := stack.CheckCorrections(x.x, misses)
		if x.e == api.ErrLarge {
			want(t, what, cost, e, costOf(x.x.Weights, misses), api.OK)
		} else {
			wantError(t, what, cost, e, api.ErrBreak)
		}
	}
}

func TestP7_6CheckFlow(t *testing.T) {
	task := exampleTask(3, 2, 1, 5)
	for what, x := range map[string]struct {
		flow  []int
		value int
		e     api.Errno
	}{
		"none":                   {nil, 0, api.ErrShape},
		"a number missing":       {make([]int, 3), 0, api.ErrShape},
		"a number more":          {make([]int, 5), 0, api.ErrShape},
		"too much":               {[]int{-2, -2, 2, 0}, 0, api.ErrRange},
		"too much the other way": {[]int{2, 2, -2, 0}, 0, api.ErrRange},
		"the least number":       {[]int{math.MinInt, 0, 0, 0}, 0, api.ErrRange},
		"too much, and open":     {[]int{0, 0, 2, 0}, 0, api.ErrRange},
		"open":                   {[]int{0, 0, 1, 0}, 0, api.ErrOpen},
		"open at a bridge":       {[]int{-1, -1, 1, 5}, 0, api.ErrOpen},
		"nothing":                {[]int{0, 0, 0, 0}, 0, api.OK},
		"the other way":          {[]int{1, 1, -1, 0}, -1, api.OK},
		"the best one":           {[]int{-1, -1, 1, 0}, 1, api.OK},
	} {
		value, e := stack.CheckFlow(task, x.flow)
		want(t, what, value, e, x.value, x.e)
	}
}

// No right corrections cost less than a right flow is worth, and bridges of a weight are not corrected.
func TestP7_10LeastCorrections(t *testing.T) {
	for what, task := range tasks() {
		r := numbers{uint64(len(task.Phases))}
		turns, flow, cost := solved(t, what, task)
		bridges, _ := stack.Bridges(task.Net)
		for _, number := range bridges {
			if turns[number] != 0 && task.Weights[number] > 0 || flow[number] != 0 {
				t.Errorf("%s: the bridge %d has %d turns and the flow %d", what, number, turns[number], flow[number])
			}
		}
		others := slices.Clone(turns)
		for range 5 {
			of := r.list(len(task.Net.Scenes), -3, 3)
			for i, pair := range task.Net.Pairs {
				others[i] = turns[i] + of[pair.Second] - of[pair.First]
			}
			most, e := stack.CheckCorrections(task, others)
			if e != api.OK || most < cost {
				t.Errorf("%s: %v cost %d, error %d, best ones cost %d", what, others, most, e, cost)
			}
		}
		if len(others) > 0 {
			others[r.below(len(others))] += 1 + r.below(2)
			checkRight(t, what, task, others)
		}
		for _, flow := range r.flows(task, 5) {
			value, e := stack.CheckFlow(task, flow)
			if e != api.OK || value > cost {
				t.Errorf("%s: a flow is worth %d, error %d, best corrections cost %d", what, value, e, cost)
			}
		}
	}
}

// checkRight looks at corrections that may be right, or not.
func checkRight(t *testing.T, what string, task api.StackTask, turns []int) {
	t.Helper()
	right, e := costOf(task.Weights, turns), api.OK
	forest, _, _ := stack.Lightest(task.Net)
	for _, miss := range missesOf(task.Net, forest, phasesBehind(task, turns)) {
		if miss != 0 {
			right, e = 0, api.ErrBreak
		}
	}
	cost, f := stack.CheckCorrections(task, turns)
	want(t, what, cost, f, right, e)
}

// flows returns right flows, each one with a few amounts more: these go around cycles, as far as there is room.
func (r *numbers) flows(task api.StackTask, n int) [][]int {
	flow := make([]int, len(task.Phases))
	cycles := cyclesOf(task.Net, r.forest(task.Net))
	var out [][]int
	for i := range 10 * n {
		if i%10 == 0 {
			out = append(out, slices.Clone(flow))
		}
		if len(cycles) == 0 {
			continue
		}
		cycle := cycles[r.below(len(cycles))]
		sign := 1 - 2*r.below(2)
		room := api.MaxNetWeight
		for _, step := range cycle {
			room = min(room, task.Weights[step.Pair]-sign*step.Sign*flow[step.Pair])
		}
		amount := sign * r.below(room+1)
		for _, step := range cycle {
			flow[step.Pair] += step.Sign * amount
		}
	}
	return out
}
