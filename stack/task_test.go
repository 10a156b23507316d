package stack_test

import (
	"fmt"
	"math"
	"slices"
	"testing"

	"swath/api"
	"swath/stack"
)

// wrongTasks are those with wrong stacks, too.
func wrongTasks() map[string]wrong[api.StackTask] {
	great := []int{api.MaxPhase + 1, 0, 0, 0}
	heavy := []int{1001, 0, 0, 0}
	out := map[string]wrong[api.StackTask]{
		"no phases":               {api.StackTask{Net: example(), Weights: make([]int, 4)}, 0, api.ErrShape},
		"a phase missing":         {api.StackTask{Net: example(), Phases: make([]int, 3), Weights: make([]int, 4)}, 0, api.ErrShape},
		"a phase more":            {api.StackTask{Net: example(), Phases: make([]int, 5), Weights: make([]int, 4)}, 0, api.ErrShape},
		"no weights":              {api.StackTask{Net: example(), Phases: make([]int, 4)}, 0, api.ErrShape},
		"a weight missing":        {api.StackTask{Net: example(), Phases: make([]int, 4), Weights: make([]int, 3)}, 0, api.ErrShape},
		"a weight more":           {api.StackTask{Net: example(), Phases: make([]int, 4), Weights: make([]int, 5)}, 0, api.ErrShape},
		"one for each scene":      {even(chain(4), 1, 0, 0, 0, 0), 0, api.ErrShape},
		"phases of no stack":      {api.StackTask{Phases: []int{0}}, 0, api.ErrShape},
		"weights of no stack":     {api.StackTask{Weights: []int{0}}, 0, api.ErrShape},
		"a phase, no weights":     {api.StackTask{Net: example(), Phases: great}, 0, api.ErrShape},
		"a weight, no phases":     {api.StackTask{Net: example(), Weights: heavy}, 0, api.ErrShape},
		"a great phase":           {even(example(), 1, great...), 0, api.ErrRange},
		"a great one below 0":     {even(example(), 1, 0, 0, 0, -api.MaxPhase-1), 0, api.ErrRange},
		"a void phase":            {even(example(), 1, 0, void, 0, 0), 0, api.ErrRange},
		"the least phase":         {even(example(), 1, 0, 0, math.MinInt, 0), 0, api.ErrRange},
		"the greatest phase":      {even(example(), 1, 0, 0, 0, math.MaxInt), 0, api.ErrRange},
		"phases that take turns":  {even(example(), 1, math.MaxInt, math.MinInt, math.MaxInt, math.MinInt), 0, api.ErrRange},
		"a great weight":          {exampleTask(heavy...), 0, api.ErrRange},
		"a weight below 0":        {exampleTask(1, 1, 1, -1), 0, api.ErrRange},
		"the least weight":        {exampleTask(1, math.MinInt, 1, 1), 0, api.ErrRange},
		"the greatest weight":     {exampleTask(1, 1, math.MaxInt, 1), 0, api.ErrRange},
		"a great weight, no turn": {api.StackTask{Net: example(), Phases: []int{1, 2, 4, 8}, Weights: heavy}, 0, api.ErrRange},
	}
	for what, x := range wrongStacks() {
		out[what] = wrong[api.StackTask]{api.StackTask{Net: x.x, Phases: great}, 0, x.e}
		out[what+", with a task"] = wrong[api.StackTask]{even(x.x, 1, make([]int, len(x.x.Pairs))...), 0, x.e}
	}
	return out
}

func TestP7_5CheckTask(t *testing.T) {
	for _, task := range []api.StackTask{
		{}, exampleTask(3, 2, 1, 5), exampleTask(0, 0, 0, 0), exampleTask(1000, 1000, 1000, 1000), even(alike(5), 7), {Net: alike(1)},
		even(example(), 1, api.MaxPhase, -api.MaxPhase, api.MaxPhase, -api.MaxPhase), even(example(), 1, 1, 2, 4, 8),
	} {
		if e := stack.CheckTask(task); e != api.OK {
			t.Errorf("%v: error %d", task, e)
		}
	}
	for what, x := range wrongTasks() {
		if e := stack.CheckTask(x.x); e != x.e {
			t.Errorf("%s: error %d, want %d", what, e, x.e)
		}
	}
}

// The error of a task comes ahead of all others, whatever the further arguments are.
func TestP7_5ErrorsOfTasks(t *testing.T) {
	for what, x := range wrongTasks() {
		for name, e := range taskErrors(t, what, x.x) {
			if e != x.e {
				t.Errorf("%s: %s has the error %d, want %d", what, name, e, x.e)
			}
		}
	}
}

func TestP7_5Closure(t *testing.T) {
	task := exampleTask(3, 2, 1, 5)
	for i, right := range []int{-4096, -4096, 4096, 0, 0, 0, -4096, -8192, 0} {
		cycle := rightWalks()[i]
		closure, e := stack.Closure(task, cycle)
		want(t, fmt.Sprint(cycle), closure, e, right, api.OK)
	}
	for what, x := range wrongWalks() {
		closure, e := stack.Closure(task, x.x)
		wantError(t, what, closure, e, x.e)
	}
	// the greatest closure: 400 steps, all of which add the greatest phase
	most := even(alike(3, 0, 1, 1, 2, 0, 2), 1, api.MaxPhase, api.MaxPhase, -api.MaxPhase)
	closure, e := stack.Closure(most, slices.Repeat(walk(0, 1, 1, 1, 2, -1), 133))
	want(t, "a great closure", closure, e, 399*api.MaxPhase, api.OK)
	closure, e = stack.Closure(most, slices.Repeat(walk(2, 1, 1, -1, 0, -1), 133))
	want(t, "a great one below 0", closure, e, -399*api.MaxPhase, api.OK)
	r := numbers{9}
	for range 300 {
		s := r.stack(2+r.below(20), 1+r.below(60), 10)
		task := even(s, 1, r.list(len(s.Pairs), -api.MaxPhase, api.MaxPhase)...)
		if cycle := r.closedWalk(s, 200); len(cycle) > 0 {
			closure, e := stack.Closure(task, cycle)
			want(t, fmt.Sprint(task, cycle), closure, e, closureOf(task.Phases, cycle), api.OK)
		}
	}
}

func TestP7_5FirstOpen(t *testing.T) {
	task := exampleTask(3, 2, 1, 5)
	cycle, closure, e := stack.FirstOpen(task)
	wantError(t, "whole turns", cycle, e, api.ErrNone)
	wantError(t, "whole turns", closure, e, api.ErrNone)
	task.Phases[1] = 501
	cycle, closure, e = stack.FirstOpen(task)
	want(t, "the fifth example", cycle, e, walk(1, 1, 2, -1, 0, 1), api.OK)
	want(t, "the fifth example", closure, e, -4095, api.OK)
	for _, parts := range []int{1024, 2048, -2048, 4095, 6144} {
		task.Phases[1] = 500 + parts
		cycle, closure, e = stack.FirstOpen(task)
		want(t, fmt.Sprint(parts, " parts more"), cycle, e, walk(1, 1, 2, -1, 0, 1), api.OK)
		want(t, fmt.Sprint(parts, " parts more"), closure, e, parts-4096, api.OK)
	}
	for _, s := range []api.StackNet{{}, alike(4), chain(60)} {
		cycle, closure, e := stack.FirstOpen(even(s, 1, upTo(len(s.Pairs))...))
		wantError(t, "no cycles", cycle, e, api.ErrNone)
		wantError(t, "no cycles", closure, e, api.ErrNone)
	}
}

func TestP7_5FirstOpenOfManyTasks(t *testing.T) {
	for what, s := range anyStacks() {
		r := numbers{uint64(len(s.Pairs))}
		task := r.task(s, 3, 9)
		for range min(3, len(s.Pairs)) {
			task.Phases[r.below(len(s.Pairs))] += r.within(1)
		}
		checkFirstOpen(t, what, task)
	}
	r := numbers{10}
	for range 200 {
		task := r.task(r.stack(2+r.below(10), r.below(30), 4), 3, 9)
		for i := range task.Phases {
			if r.below(9) == 0 {
				task.Phases[i] += r.within(2)
			}
		}
		checkFirstOpen(t, fmt.Sprint(task), task)
	}
}

func checkFirstOpen(t *testing.T, what string, task api.StackTask) {
	t.Helper()
	forest, _, _ := stack.Lightest(task.Net)
	cycle, closure, e := stack.FirstOpen(task)
	for _, right := range cyclesOf(task.Net, forest) {
		if of := closureOf(task.Phases, right); of%4096 != 0 {
			want(t, what, cycle, e, right, api.OK)
			want(t, what, closure, e, of, api.OK)
			return
		}
	}
	wantError(t, what, cycle, e, api.ErrNone)
	wantError(t, what, closure, e, api.ErrNone)
}

// Closures of walks are whole turns if those of the cycles of any forest are; and if one is not, some cycle of each
// forest is not.
func TestP7_8WholeTurns(t *testing.T) {
	r := numbers{11}
	for range 150 {
		s := r.stack(2+r.below(12), 1+r.below(25), 6)
		task := r.task(s, 9, 9)
		whole := true
		if r.below(2) == 0 {
			task.Phases[r.below(len(task.Phases))] += 1 + r.below(4095)
			_, _, e := stack.FirstOpen(task)
			whole = e == api.ErrNone
		}
		cycles, e := stack.Cycles(s, r.forest(s))
		if e != api.OK {
			t.Fatalf("%v: error %d", s, e)
		}
		open := slices.ContainsFunc(cycles, func(cycle []api.StackStep) bool {
			closure, _ := stack.Closure(task, cycle)
			return closure%4096 != 0
		})
		if open == whole {
			t.Errorf("%v: a cycle is open: %v, whole turns: %v", task, open, whole)
		}
		for range 20 {
			cycle := r.closedWalk(s, 60)
			closure, e := stack.Closure(task, cycle)
			if len(cycle) > 0 && (e != api.OK || whole && closure%4096 != 0) {
				t.Errorf("%v: %v has the closure %d, error %d", task, cycle, closure, e)
			}
		}
	}
}
