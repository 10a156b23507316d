package stack_test

import (
	"fmt"
	"iter"
	"maps"
	"math"
	"slices"
	"testing"

	"swath/api"
	"swath/stack"
)

func valuesOf(stacks map[string]api.StackNet) iter.Seq[api.StackNet] { return maps.Values(stacks) }

func TestP7_3Lightest(t *testing.T) {
	l, length, e := stack.Lightest(example())
	want(t, "the example", l, e, []int{0, 2, 3}, api.OK)
	want(t, "the example", length, e, 298, api.OK)
	l, length, e = stack.Lightest(alike(4))
	want(t, "no pairs", l, e, nil, api.OK)
	want(t, "no pairs", length, e, 0, api.OK)
	l, _, e = stack.Lightest(complete(4))
	want(t, "pairs alike", l, e, []int{0, 1, 2}, api.OK)
	l, length, e = stack.Lightest(api.StackNet{Scenes: scenes(100000, -100000, 0, 100000), Pairs: pairs(0, 1)})
	want(t, "the longest pair", l, e, []int{0}, api.OK)
	want(t, "the longest pair", length, e, 300000, api.OK)
	// the lengths are 9 for 0-1, 4 for 0-2, 5 for 1-2, and each one is the longest on one of both scales
	l, length, e = stack.Lightest(api.StackNet{Scenes: scenes(0, 0, 9, 0, 4, 0), Pairs: pairs(0, 1, 1, 2, 0, 2)})
	want(t, "days", l, e, []int{1, 2}, api.OK)
	want(t, "days", length, e, 9, api.OK)
	l, length, e = stack.Lightest(api.StackNet{Scenes: scenes(5, 0, 3, -9, 0, -4), Pairs: pairs(0, 1, 1, 2, 0, 2)})
	want(t, "days and baselines", l, e, []int{1, 2}, api.OK)
	want(t, "days and baselines", length, e, 17, api.OK)
}

func TestP7_3LightestOfSmallStacks(t *testing.T) {
	for _, s := range smallStacks(4) {
		right := lightestOf(s)
		l, length, e := stack.Lightest(s)
		want(t, fmt.Sprint(s), l, e, right, api.OK)
		want(t, fmt.Sprint(s), length, e, lengthOf(s, right...), api.OK)
	}
}

func TestP7_3LightestOfLargeStacks(t *testing.T) {
	for what, s := range anyStacks() {
		l, length, e := stack.Lightest(s)
		if e != api.OK || !slices.IsSorted(l) || !isLightest(s, l) {
			t.Errorf("%s: error %d, %v is not the lightest forest", what, e, l)
		}
		want(t, what, length, e, lengthOf(s, l...), api.OK)
	}
}

// The lightest forest has no longer pair than those that are not in it, and a pair for each scene but one of a part.
func TestP7_11Lightest(t *testing.T) {
	for what, s := range anyStacks() {
		l, _, e := stack.Lightest(s)
		want(t, what, len(l), e, len(s.Scenes)-howMany(partsOf(s)), api.OK)
		cycles, e := stack.Cycles(s, l)
		if e != api.OK {
			t.Errorf("%s: error %d", what, e)
		}
		for _, cycle := range cycles {
			for _, step := range cycle {
				if lengthOf(s, step.Pair) > lengthOf(s, cycle[0].Pair) {
					t.Errorf("%s: the pair %d is longer than %d", what, step.Pair, cycle[0].Pair)
				}
			}
		}
		bridges, _ := stack.Bridges(s)
		r := numbers{5}
		for range 5 {
			forest := r.forest(s)
			length, e := stack.CheckForest(s, forest)
			want(t, what, length, e, lengthOf(s, forest...), api.OK)
			if len(forest) != len(l) || slices.ContainsFunc(bridges, func(number int) bool { return !slices.Contains(forest, number) }) {
				t.Errorf("%s: a forest %v with the bridges %v", what, forest, bridges)
			}
		}
	}
}

// Of all sets of pairs, just the forests are accepted.
func TestP7_3CheckForestOfSmallStacks(t *testing.T) {
	for _, s := range smallStacks(6) {
		for _, l := range subsets(len(s.Pairs)) {
			right, e := lengthOf(s, l...), api.OK
			switch {
			case !isClear(s, l):
				right, e = 0, api.ErrCycle
			case !isForest(s, l):
				right, e = 0, api.ErrOpen
			}
			length, f := stack.CheckForest(s, l)
			want(t, fmt.Sprint(s, l), length, f, right, e)
		}
	}
}

// wrongForests are those of the example.
func wrongForests() map[string]wrong[[]int] {
	out := map[string]wrong[[]int]{
		"no pairs":               {nil, 0, api.ErrOpen},
		"a pair missing":         {[]int{0, 1}, 0, api.ErrOpen},
		"another one missing":    {[]int{1, 3}, 0, api.ErrOpen},
		"a cycle":                {[]int{0, 1, 2}, 0, api.ErrCycle},
		"a cycle, and a pair":    {[]int{0, 1, 2, 3}, 0, api.ErrCycle},
		"a cycle, then missing":  {[]int{0, 1, 2, 4}, 0, api.ErrCycle},
		"a cycle, then an order": {[]int{0, 1, 2, 1}, 0, api.ErrCycle},
		"a wrong order":          {[]int{0, 3, 2}, 0, api.ErrOrder},
		"a pair twice":           {[]int{0, 0, 2, 3}, 0, api.ErrOrder},
		"an order and a cycle":   {[]int{1, 2, 0}, 0, api.ErrOrder},
		"an order, then missing": {[]int{2, 0, 9}, 0, api.ErrOrder},
		"missing, then an order": {[]int{0, 9, 2}, 0, api.ErrMissing},
		"missing and an order":   {[]int{0, 2, -1}, 0, api.ErrMissing},
	}
	for _, n := range []int{-1, 4, math.MinInt, math.MaxInt} {
		out[fmt.Sprint("the pair ", n)] = wrong[[]int]{[]int{0, 2, n}, 0, api.ErrMissing}
		out[fmt.Sprint("the pair ", n, " alone")] = wrong[[]int]{[]int{n}, 0, api.ErrMissing}
	}
	return out
}

func TestP7_3CheckForest(t *testing.T) {
	for _, x := range []struct {
		forest []int
		length int
	}{{[]int{0, 2, 3}, 298}, {[]int{0, 1, 3}, 386}, {[]int{1, 2, 3}, 348}} {
		length, e := stack.CheckForest(example(), x.forest)
		want(t, fmt.Sprint(x.forest), length, e, x.length, api.OK)
	}
	length, e := stack.CheckForest(alike(7), nil)
	want(t, "scenes without pairs", length, e, 0, api.OK)
	length, e = stack.CheckForest(alike(7), []int{0})
	wantError(t, "a pair of none", length, e, api.ErrMissing)
	for what, x := range wrongForests() {
		length, e := stack.CheckForest(example(), x.x)
		wantError(t, what, length, e, x.e)
		cycle, e := stack.CycleOf(example(), x.x, -1)
		wantError(t, what+", CycleOf", cycle, e, x.e)
		cycles, e := stack.Cycles(example(), x.x)
		wantError(t, what+", Cycles", cycles, e, x.e)
	}
}
