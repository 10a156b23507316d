package stack_test

import (
	"fmt"
	"math"
	"slices"
	"testing"

	"swath/api"
	"swath/stack"
)

func TestP7_7Examples(t *testing.T) {
	task := exampleTask(3, 2, 1, 5)
	phases, missed, e := stack.Solved(task, 0)
	wantError(t, "the fourth example", phases, e, api.ErrBreak)
	want(t, "the fourth example", missed, e, []int{1}, api.ErrBreak)
	task.Phases[2] = 1500
	phases, missed, e = stack.Solved(task, 0)
	want(t, "corrected", phases, e, []int{0, 1000, 1500, 1200}, api.OK)
	want(t, "corrected", missed, e, nil, api.OK)
	phases, e = stack.Moved(task.Net, phases, 2)
	want(t, "moved", phases, e, []int{-1500, -500, 0, -300}, api.OK)
	phases, _, e = stack.Solved(task, 2)
	want(t, "another datum", phases, e, []int{-1500, -500, 0, -300}, api.OK)
}

func TestP7_7Solved(t *testing.T) {
	phases, missed, e := stack.Solved(api.StackTask{Net: alike(3)}, 1)
	want(t, "no pairs", phases, e, []int{void, 0, void}, api.OK)
	want(t, "no pairs", missed, e, nil, api.OK)
	parts := even(alike(5, 1, 3, 0, 4), 1, 7, -9)
	for datum, right := range [][]int{{0, void, void, void, -9}, {void, 0, void, 7, void}, {void, void, 0, void, void}, {void, -7, void, 0, void}, {9, void, void, void, 0}} {
		phases, _, e := stack.Solved(parts, datum)
		want(t, fmt.Sprint("parts from ", datum), phases, e, right, api.OK)
	}
	long := even(chain(60), 0, slices.Repeat([]int{api.MaxPhase}, 59)...)
	phases, _, e = stack.Solved(long, 0)
	want(t, "a long chain", phases[59], e, 59*api.MaxPhase, api.OK)
	phases, _, e = stack.Solved(long, 59)
	want(t, "a long chain back", phases[0], e, -59*api.MaxPhase, api.OK)
	for _, datum := range []int{-1, 4, math.MinInt, math.MaxInt} {
		phases, missed, e := stack.Solved(exampleTask(1, 1, 1, 1), datum)
		wantError(t, fmt.Sprint("the scene ", datum), phases, e, api.ErrMissing)
		wantError(t, fmt.Sprint("the scene ", datum), missed, e, api.ErrMissing)
	}
	phases, missed, e = stack.Solved(api.StackTask{}, 0)
	wantError(t, "no scenes", phases, e, api.ErrMissing)
	wantError(t, "no scenes", missed, e, api.ErrMissing)
}

// All parts must close, also those without the datum; whole turns do not count as closed.
func TestP7_7SolvedBreaks(t *testing.T) {
	s := alike(7, 0, 1, 1, 2, 0, 2, 3, 4, 4, 5, 3, 5)
	for _, x := range []struct {
		phases, want []int
	}{
		{[]int{1, 2, 3, 4, 5, 8}, []int{5}}, {[]int{1, 2, 4, 4, 5, 9}, []int{2}}, {[]int{1, 2, 2, 4, 5, -9}, []int{2, 5}}, {[]int{1, 2, 3 + 4096, 4, 5, 9}, []int{2}},
	} {
		for datum := range 7 {
			phases, missed, e := stack.Solved(even(s, 1, x.phases...), datum)
			wantError(t, fmt.Sprint(x.phases, datum), phases, e, api.ErrBreak)
			want(t, fmt.Sprint(x.phases, datum), missed, e, x.want, api.ErrBreak)
		}
	}
}

func TestP7_7SolvedOfManyTasks(t *testing.T) {
	for what, task := range tasks() {
		r := numbers{uint64(len(task.Phases))}
		s := task.Net
		forest, _, _ := stack.Lightest(s)
		if len(task.Phases) > 0 && r.below(2) == 0 {
			task.Phases[r.below(len(task.Phases))] += r.within(5)
		}
		var missed []int
		for i, miss := range missesOf(s, forest, task.Phases) {
			if miss != 0 {
				missed = append(missed, i)
			}
		}
		for range min(3, len(s.Scenes)) {
			datum := r.below(len(s.Scenes))
			phases, got, e := stack.Solved(task, datum)
			if len(missed) > 0 {
				wantError(t, what, phases, e, api.ErrBreak)
				want(t, what, got, e, missed, api.ErrBreak)
				continue
			}
			want(t, what, got, e, nil, api.OK)
			want(t, what, phases, e, sumsOf(s, forest, task.Phases, datum), api.OK)
		}
	}
}

// Behind right corrections all closes, so that the phases can be solved.
func TestP7_8Closed(t *testing.T) {
	for what, task := range tasks() {
		r := numbers{uint64(len(task.Phases))}
		turns, _, _ := solved(t, what, task)
		of := r.list(len(task.Net.Scenes), -2, 2)
		for i, pair := range task.Net.Pairs {
			turns[i] += of[pair.Second] - of[pair.First]
		}
		behind := api.StackTask{Net: task.Net, Phases: phasesBehind(task, turns), Weights: task.Weights}
		if len(of) > 0 {
			datum := r.below(len(of))
			phases, missed, e := stack.Solved(behind, datum)
			if e != api.OK || len(missed) > 0 || phases[datum] != 0 {
				t.Errorf("%s: error %d, %v is open", what, e, missed)
			}
		}
		for range 5 {
			if len(of) == 0 {
				break
			}
			if cycle := r.closedWalk(task.Net, 200); len(cycle) > 0 {
				closure, e := stack.Closure(behind, cycle)
				want(t, what, closure, e, 0, api.OK)
			}
		}
	}
}

// Whatever forest one goes along, the phases are the same; moved to another datum, and back, they are as before.
func TestP7_9AnyTree(t *testing.T) {
	for what, s := range anyStacks() {
		r := numbers{uint64(len(s.Pairs))}
		closing, of := r.closing(s, 1000000)
		task := even(s, 1, closing...)
		for range min(4, len(of)) {
			datum, other := r.below(len(of)), r.below(len(of))
			phases, _, e := stack.Solved(task, datum)
			want(t, what, phases, e, sumsOf(s, r.forest(s), closing, datum), api.OK)
			parts, _ := stack.Parts(s)
			for scene, phase := range phases {
				if is := parts[scene] == parts[datum]; is && phase != of[scene]-of[datum] || !is && phase != void {
					t.Errorf("%s: the scene %d has the phase %d from %d", what, scene, phase, datum)
				}
			}
			if parts[other] != parts[datum] {
				moved, e := stack.Moved(s, phases, other)
				wantError(t, what, moved, e, api.ErrVoid)
				continue
			}
			moved, e := stack.Moved(s, phases, other)
			again, _, f := stack.Solved(task, other)
			want(t, what, moved, e, again, f)
			back, e := stack.Moved(s, moved, datum)
			want(t, what, back, e, phases, api.OK)
		}
	}
}

func TestP7_7Moved(t *testing.T) {
	most := api.MaxScenes * api.MaxPhase
	for _, x := range []struct {
		phases []int
		datum  int
		want   []int
	}{
		{[]int{0, 1000, 1500, 1200}, 2, []int{-1500, -500, 0, -300}},
		{[]int{5, 6, 7, 8}, 0, []int{0, 1, 2, 3}},
		{[]int{void, 6, void, 8}, 3, []int{void, -2, void, 0}},
		{[]int{most, -most, 0, void}, 1, []int{2 * most, 0, most, void}},
		{[]int{most, -most, 0, void}, 0, []int{0, -2 * most, -most, void}},
	} {
		kept := slices.Clone(x.phases)
		moved, e := stack.Moved(example(), x.phases, x.datum)
		want(t, fmt.Sprint(x), moved, e, x.want, api.OK)
		want(t, "the argument", x.phases, e, kept, api.OK)
	}
	for what, x := range map[string]wrong[[]int]{
		"no phases":                   {nil, 0, api.ErrShape},
		"a phase missing":             {[]int{0, 0, 0}, 9, api.ErrShape},
		"a phase more":                {[]int{0, 0, 0, 0, 0}, 0, api.ErrShape},
		"a shape, and a great phase":  {[]int{most + 1, 0, 0}, 0, api.ErrShape},
		"a great phase":               {[]int{0, most + 1, 0, 0}, 0, api.ErrRange},
		"a great one below 0":         {[]int{0, 0, 0, -most - 1}, 0, api.ErrRange},
		"nearly a void one":           {[]int{0, 0, void - 1, 0}, 0, api.ErrRange},
		"more than a void one":        {[]int{0, 0, void + 1, 0}, 0, api.ErrRange},
		"the opposite of void":        {[]int{0, 0, -void, 0}, 0, api.ErrRange},
		"the least number":            {[]int{math.MinInt, 0, 0, 0}, 0, api.ErrRange},
		"the greatest number":         {[]int{math.MaxInt, 0, 0, 0}, 0, api.ErrRange},
		"a great phase, no datum":     {[]int{0, most + 1, 0, 0}, 4, api.ErrRange},
		"a void datum, a great phase": {[]int{void, most + 1, 0, 0}, 0, api.ErrRange},
		"no scene":                    {[]int{0, 0, 0, 0}, 4, api.ErrMissing},
		"a scene below 0":             {[]int{0, 0, 0, 0}, -1, api.ErrMissing},
		"the least scene":             {[]int{0, 0, 0, 0}, math.MinInt, api.ErrMissing},
		"the greatest scene":          {[]int{0, 0, 0, 0}, math.MaxInt, api.ErrMissing},
		"a void datum":                {[]int{0, 0, 0, void}, 3, api.ErrVoid},
		"all void":                    {[]int{void, void, void, void}, 1, api.ErrVoid},
	} {
		moved, e := stack.Moved(example(), x.x, x.number)
		wantError(t, what, moved, e, x.e)
	}
	moved, e := stack.Moved(api.StackNet{}, nil, 0)
	wantError(t, "no scenes", moved, e, api.ErrMissing)
}
