package stack_test

import (
	"fmt"
	"math"
	"slices"
	"testing"

	"swath/api"
	"swath/stack"
)

func TestP7_2SmallPairs(t *testing.T) {
	l, e := stack.SmallPairs(example().Scenes, 24, 120)
	want(t, "the example", l, e, pairs(0, 1, 0, 2, 1, 3, 2, 3), api.OK)
	l, e = stack.SmallPairs(nil, 0, 0)
	want(t, "no scenes", l, e, nil, api.OK)
	l, e = stack.SmallPairs(scenes(5, 5), 100000, 200000)
	want(t, "one scene", l, e, nil, api.OK)
	far := scenes(100000, -100000, 0, 100000, 100000, 100000)
	l, e = stack.SmallPairs(far, 100000, 200000)
	want(t, "the far edge", l, e, pairs(0, 1, 0, 2, 1, 2), api.OK)
	l, e = stack.SmallPairs(far, 100000, 199999)
	want(t, "a narrower baseline", l, e, pairs(1, 2), api.OK)
	l, e = stack.SmallPairs(far, 99999, 200000)
	want(t, "fewer days", l, e, pairs(0, 2), api.OK)
	l, e = stack.SmallPairs(scenes(7, 3, 7, 3, 7, 4, 8, 3), 0, 0)
	want(t, "nothing between", l, e, pairs(0, 1), api.OK)
	l, e = stack.SmallPairs(scenes(9, 0, 4, 0, 0, 0, 5, 0), 4, 0)
	want(t, "days that go back", l, e, pairs(0, 3, 1, 2, 1, 3), api.OK)
}

func TestP7_2SmallPairsOfManyScenes(t *testing.T) {
	r := numbers{2}
	for range 300 {
		s := r.stack(r.below(60)+1, 0, 1+r.below(1000))
		days, baseline := r.below(300), r.below(400)
		var right []api.StackPair
		for i, a := range s.Scenes {
			for j, b := range s.Scenes {
				if i < j && size(a.Day-b.Day) <= days && size(a.Baseline-b.Baseline) <= baseline {
					right = append(right, api.StackPair{First: i, Second: j})
				}
			}
		}
		e := api.OK
		if len(right) > 200 {
			right, e = nil, api.ErrLarge
		}
		l, f := stack.SmallPairs(s.Scenes, days, baseline)
		want(t, fmt.Sprint(s, days, baseline), l, f, right, e)
	}
}

func TestP7_2SmallPairsErrors(t *testing.T) {
	for what, x := range wrongScenes() {
		l, e := stack.SmallPairs(x.x, -1, -1)
		wantError(t, what, l, e, x.e)
	}
	crowd := scenes(make([]int, 120)...)
	for _, x := range []struct{ days, baseline int }{{-1, 0}, {100001, 0}, {math.MinInt, 0}, {math.MaxInt, 0}, {0, -1}, {0, 200001}, {0, math.MinInt}, {0, math.MaxInt}, {-1, -1}} {
		l, e := stack.SmallPairs(example().Scenes, x.days, x.baseline)
		wantError(t, fmt.Sprint(x), l, e, api.ErrRange)
		l, e = stack.SmallPairs(crowd, x.days, x.baseline)
		wantError(t, fmt.Sprint("a crowd, ", x), l, e, api.ErrRange)
	}
	l, e := stack.SmallPairs(crowd, 0, 0)
	wantError(t, "1770 pairs", l, e, api.ErrLarge)
	// 20 scenes have 190 pairs, 5 others 10, and 2 others one more
	days := append(make([]int, 40), slices.Repeat([]int{10, 0}, 5)...)
	l, e = stack.SmallPairs(scenes(days...), 0, 0)
	want(t, "200 pairs", len(l), e, 200, api.OK)
	l, e = stack.SmallPairs(scenes(append(days, 20, 0, 20, 0)...), 0, 0)
	wantError(t, "201 pairs", l, e, api.ErrLarge)
}

func TestP7_2Parts(t *testing.T) {
	for _, x := range []struct {
		s    api.StackNet
		want []int
	}{
		{example(), []int{0, 0, 0, 0}},
		{api.StackNet{}, nil},
		{alike(3), []int{0, 1, 2}},
		{alike(6, 3, 5, 0, 4, 1, 5, 1, 3), []int{0, 1, 2, 1, 0, 1}},
		{alike(6, 4, 5, 3, 4, 2, 3, 1, 2, 0, 1), []int{0, 0, 0, 0, 0, 0}},
		{alike(5, 1, 4, 2, 3, 3, 4), []int{0, 1, 1, 1, 1}},
		{alike(5, 2, 4, 1, 3), []int{0, 1, 2, 1, 2}},
	} {
		l, e := stack.Parts(x.s)
		want(t, fmt.Sprint(x.s), l, e, x.want, api.OK)
	}
	for what, s := range anyStacks() {
		l, e := stack.Parts(s)
		want(t, what, l, e, partsOf(s), api.OK)
	}
}

func TestP7_2Bridges(t *testing.T) {
	for _, x := range []struct {
		s    api.StackNet
		want []int
	}{
		{example(), []int{3}},
		{api.StackNet{}, nil},
		{alike(3), nil},
		{alike(2, 0, 1), []int{0}},
		{chain(60), upTo(59)},
		{complete(20), nil},
		{alike(6, 0, 1, 1, 2, 0, 2, 2, 3, 3, 4, 4, 5, 3, 5), []int{3}},
		{alike(5, 3, 4, 0, 1, 0, 2), []int{0, 1, 2}},
	} {
		l, e := stack.Bridges(x.s)
		want(t, fmt.Sprint(x.s), l, e, x.want, api.OK)
	}
	stacks := slices.Collect(valuesOf(anyStacks()))
	r := numbers{3}
	for range 60 {
		n := 2 + r.below(59)
		stacks = append(stacks, r.stack(n, n, 50))
	}
	for _, s := range stacks {
		var right []int
		for number := range s.Pairs {
			without := slices.Delete(upTo(len(s.Pairs)), number, number+1)
			if howMany(partsOf(with(s, without))) > howMany(partsOf(s)) {
				right = append(right, number)
			}
		}
		l, e := stack.Bridges(s)
		want(t, fmt.Sprint(s), l, e, right, api.OK)
	}
}
