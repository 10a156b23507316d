package stack_test

import (
	"fmt"
	"math"
	"slices"
	"testing"

	"swath/api"
	"swath/stack"
)

func TestP7_4CycleOf(t *testing.T) {
	cycle, e := stack.CycleOf(example(), []int{0, 2, 3}, 1)
	want(t, "the example", cycle, e, walk(1, 1, 2, -1, 0, 1), api.OK)
	cycle, e = stack.CycleOf(example(), []int{0, 1, 3}, 2)
	want(t, "another forest", cycle, e, walk(2, 1, 1, -1, 0, -1), api.OK)
	cycle, e = stack.CycleOf(example(), []int{1, 2, 3}, 0)
	want(t, "a third forest", cycle, e, walk(0, 1, 1, 1, 2, -1), api.OK)
	ring := chain(60)
	ring.Pairs = append(ring.Pairs, api.StackPair{First: 0, Second: 59})
	right := walk(59, 1)
	for number := range 59 {
		right = append(right, api.StackStep{Pair: 58 - number, Sign: -1})
	}
	cycle, e = stack.CycleOf(ring, upTo(59), 59)
	want(t, "a ring", cycle, e, right, api.OK)
	for _, number := range []int{-1, 4, math.MinInt, math.MaxInt} {
		cycle, e := stack.CycleOf(example(), []int{0, 2, 3}, number)
		wantError(t, fmt.Sprint("the pair ", number), cycle, e, api.ErrMissing)
	}
	for _, number := range []int{0, 2, 3} {
		cycle, e := stack.CycleOf(example(), []int{0, 2, 3}, number)
		wantError(t, fmt.Sprint("the pair ", number), cycle, e, api.ErrDouble)
	}
}

func TestP7_4Cycles(t *testing.T) {
	cycles, e := stack.Cycles(example(), []int{0, 2, 3})
	want(t, "the example", cycles, e, [][]api.StackStep{walk(1, 1, 2, -1, 0, 1)}, api.OK)
	cycles, e = stack.Cycles(chain(60), upTo(59))
	want(t, "a chain", cycles, e, nil, api.OK)
	cycles, e = stack.Cycles(api.StackNet{}, nil)
	want(t, "nothing", cycles, e, nil, api.OK)
	for what, s := range anyStacks() {
		r := numbers{7}
		forest := r.forest(s)
		right := cyclesOf(s, forest)
		cycles, e := stack.Cycles(s, forest)
		want(t, what, cycles, e, right, api.OK)
		for _, cycle := range right {
			one, e := stack.CycleOf(s, forest, cycle[0].Pair)
			want(t, what, one, e, cycle, api.OK)
			closed(t, what, s, one)
		}
	}
}

// closed checks that a cycle is a closed walk that comes to no scene twice, and so uses no pair twice.
func closed(t *testing.T, what string, s api.StackNet, cycle []api.StackStep) {
	t.Helper()
	if e := stack.CheckCycle(s, cycle); e != api.OK {
		t.Errorf("%s: %v has the error %d", what, cycle, e)
	}
	var seen []int
	for i, step := range cycle {
		if slices.Contains(seen, beginOf(s, step)) || endOf(s, step) != beginOf(s, cycle[(i+1)%len(cycle)]) {
			t.Errorf("%s: %v is no cycle", what, cycle)
		}
		seen = append(seen, beginOf(s, step))
	}
}

// trianglesOf tries all scenes, and looks through all pairs.
func trianglesOf(s api.StackNet) [][]api.StackStep {
	var out [][]api.StackStep
	n := len(s.Scenes)
	number := func(first, second int) int {
		return slices.Index(s.Pairs, api.StackPair{First: first, Second: second})
	}
	for a := range n {
		for b := a + 1; b < n; b++ {
			for c := b + 1; c < n && number(a, b) >= 0; c++ {
				if number(b, c) >= 0 && number(a, c) >= 0 {
					out = append(out, walk(number(a, b), 1, number(b, c), 1, number(a, c), -1))
				}
			}
		}
	}
	return out
}

func TestP7_4Triangles(t *testing.T) {
	walks, e := stack.Triangles(example())
	want(t, "the example", walks, e, [][]api.StackStep{walk(0, 1, 1, 1, 2, -1)}, api.OK)
	walks, e = stack.Triangles(complete(4))
	want(t, "all pairs of four", walks, e, [][]api.StackStep{walk(0, 1, 3, 1, 1, -1), walk(0, 1, 4, 1, 2, -1), walk(1, 1, 5, 1, 2, -1), walk(3, 1, 5, 1, 4, -1)}, api.OK)
	walks, e = stack.Triangles(chain(60))
	want(t, "a chain", walks, e, nil, api.OK)
	walks, e = stack.Triangles(alike(4, 0, 1, 1, 2, 2, 3, 0, 3))
	want(t, "a square", walks, e, nil, api.OK)
	walks, e = stack.Triangles(alike(4, 2, 3, 1, 3, 0, 2, 1, 2))
	want(t, "pairs in another order", walks, e, [][]api.StackStep{walk(3, 1, 0, 1, 1, -1)}, api.OK)
	for what, s := range anyStacks() {
		right, e := trianglesOf(s), api.OK
		if len(right) > 400 {
			right, e = nil, api.ErrLarge
		}
		walks, f := stack.Triangles(s)
		want(t, what, walks, f, right, e)
		for _, cycle := range walks {
			closed(t, what, s, cycle)
		}
	}
}

// 14 scenes have 364 triangles; another one with pairs to 9 of them closes 36.
func TestP7_4TrianglesAtMost400(t *testing.T) {
	s := complete(14)
	s.Scenes = scenes(make([]int, 36)...)
	for scene := range 9 {
		s.Pairs = append(s.Pairs, api.StackPair{First: scene, Second: 14})
	}
	walks, e := stack.Triangles(s)
	want(t, "400 triangles", walks, e, trianglesOf(s), api.OK)
	want(t, "400 triangles", len(walks), e, 400, api.OK)
	s.Pairs = append(s.Pairs, pairs(15, 16, 15, 17, 16, 17)...)
	walks, e = stack.Triangles(s)
	wantError(t, "401 triangles", walks, e, api.ErrLarge)
	walks, e = stack.Triangles(complete(20))
	wantError(t, "1140 triangles", walks, e, api.ErrLarge)
}

// wrongWalks are those of the example.
func wrongWalks() map[string]wrong[[]api.StackStep] {
	out := map[string]wrong[[]api.StackStep]{
		"no steps":             {nil, 0, api.ErrShape},
		"401 wrong steps":      {make([]api.StackStep, 401), 0, api.ErrLarge},
		"402 right steps":      {slices.Repeat(walk(0, 1, 0, -1), 201), 0, api.ErrLarge},
		"a gap":                {walk(0, 1, 3, 1), 0, api.ErrGap},
		"a wrong way":          {walk(0, 1, 1, -1), 0, api.ErrGap},
		"twice the same way":   {walk(0, 1, 0, 1), 0, api.ErrGap},
		"a late gap":           {walk(0, 1, 1, 1, 2, -1, 3, -1), 0, api.ErrGap},
		"one step":             {walk(0, 1), 0, api.ErrOpen},
		"one step back":        {walk(0, -1), 0, api.ErrOpen},
		"two steps":            {walk(0, 1, 1, 1), 0, api.ErrOpen},
		"closed too early":     {walk(0, 1, 1, 1, 2, -1, 2, 1), 0, api.ErrOpen},
		"a pair and no sign":   {walk(4, 0), 0, api.ErrMissing},
		"no sign and a gap":    {walk(0, 1, 3, 0), 0, api.ErrRange},
		"missing, then a sign": {walk(0, 1, 9, 1, 0, 0), 0, api.ErrMissing},
		"a sign, then missing": {walk(0, 0, 9, 1), 0, api.ErrRange},
		"a gap, then missing":  {walk(0, 1, 3, 1, 9, 1), 0, api.ErrGap},
		"a gap, then a sign":   {walk(0, 1, 3, 1, 0, 0), 0, api.ErrGap},
	}
	for _, n := range []int{-1, 4, math.MinInt, math.MaxInt} {
		out[fmt.Sprint("the pair ", n)] = wrong[[]api.StackStep]{walk(0, 1, n, 1), 0, api.ErrMissing}
	}
	for _, n := range []int{0, 2, -2, math.MinInt, math.MaxInt} {
		out[fmt.Sprint("the sign ", n)] = wrong[[]api.StackStep]{walk(0, 1, 0, n), 0, api.ErrRange}
	}
	return out
}

// rightWalks are those of the example.
func rightWalks() [][]api.StackStep {
	return [][]api.StackStep{
		walk(0, 1, 1, 1, 2, -1), walk(1, 1, 2, -1, 0, 1), walk(2, 1, 1, -1, 0, -1), walk(3, 1, 3, -1), walk(3, -1, 3, 1), walk(0, 1, 0, -1, 0, 1, 0, -1),
		walk(0, 1, 1, 1, 3, 1, 3, -1, 2, -1), walk(0, 1, 1, 1, 2, -1, 0, 1, 1, 1, 2, -1), slices.Repeat(walk(0, 1, 0, -1), 200),
	}
}

func TestP7_4CheckCycle(t *testing.T) {
	for _, cycle := range rightWalks() {
		if e := stack.CheckCycle(example(), cycle); e != api.OK {
			t.Errorf("%v: error %d", cycle, e)
		}
	}
	for what, x := range wrongWalks() {
		if e := stack.CheckCycle(example(), x.x); e != x.e {
			t.Errorf("%s: error %d, want %d", what, e, x.e)
		}
	}
	if e := stack.CheckCycle(api.StackNet{}, walk(0, 1)); e != api.ErrMissing {
		t.Errorf("a step of no stack: error %d", e)
	}
}

func TestP7_4CheckCycleOfManyWalks(t *testing.T) {
	r := numbers{8}
	for range 400 {
		s := r.stack(2+r.below(12), 1+r.below(20), 10)
		steps := r.closedWalk(s, 30)
		right := api.OK
		if len(steps) == 0 {
			right = api.ErrShape
		} else if r.below(2) == 0 {
			steps = steps[1:]
			right = api.ErrOpen
			if len(steps) == 0 {
				right = api.ErrShape
			}
		}
		if e := stack.CheckCycle(s, steps); e != right {
			t.Errorf("%v, %v: error %d, want %d", s, steps, e, right)
		}
	}
}
