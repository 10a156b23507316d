package stack_test

import (
	"fmt"
	"math"
	"reflect"
	"slices"
	"testing"

	"swath/api"
	"swath/stack"
)

func oddNumbers() []int {
	return []int{0, 1, -1, 3, 4, 60, 200, 1000001, void, math.MaxInt, math.MinInt, math.MaxInt - 1, math.MinInt + 1}
}

func oddLists() [][]int {
	lists := [][]int{nil, {0, 2, 3}, {0, 1, 3}, make([]int, 3), make([]int, 4), make([]int, 60), make([]int, 700)}
	for _, n := range oddNumbers() {
		lists = append(lists, []int{n}, []int{0, n}, []int{n, n, n, n}, []int{0, n, 0, n})
	}
	return lists
}

func oddStacks() []api.StackNet {
	out := []api.StackNet{{}, example(), alike(1), chain(60), complete(20), {Scenes: make([]api.StackScene, 1000)}, {Scenes: scenes(0, 0), Pairs: make([]api.StackPair, 1000)}}
	for _, x := range wrongStacks() {
		out = append(out, x.x)
	}
	for _, n := range oddNumbers() {
		s := example()
		s.Scenes[1].Day, s.Scenes[2].Baseline = n, n
		out = append(out, s, api.StackNet{Scenes: scenes(n, n, 0, 0), Pairs: pairs(0, 1)}, alike(4, 0, 1, n, 3), alike(4, 0, 1, 2, n), alike(4, n, n))
	}
	return out
}

func oddWalks() [][]api.StackStep {
	out := append(rightWalks(), make([]api.StackStep, 1000))
	for _, x := range wrongWalks() {
		out = append(out, x.x)
	}
	for _, n := range oddNumbers() {
		out = append(out, walk(n, n), walk(0, n, n, -1), walk(n, 1, n, -1), walk(0, 1, 0, n))
	}
	return out
}

// P1 of the document: every function terminates and does not panic, and beside an error all is zero.
func TestP1NoPanicOfStacks(t *testing.T) {
	for _, s := range oddStacks() {
		stack.CheckNet(s)
		stackErrors(t, "a stack", s)
		for _, n := range oddNumbers() {
			l, e := stack.SmallPairs(s.Scenes, n, 100)
			zeroBeside(t, "SmallPairs", l, e)
			l, e = stack.SmallPairs(s.Scenes, 100, n)
			zeroBeside(t, "SmallPairs", l, e)
			cycle, e := stack.CycleOf(s, []int{0, 2, 3}, n)
			zeroBeside(t, "CycleOf", cycle, e)
			phases, e := stack.Moved(s, make([]int, len(s.Scenes)), n)
			zeroBeside(t, "Moved", phases, e)
		}
		for _, list := range oddLists() {
			length, e := stack.CheckForest(s, list)
			zeroBeside(t, "CheckForest", length, e)
			cycles, e := stack.Cycles(s, list)
			zeroBeside(t, "Cycles", cycles, e)
			cycle, e := stack.CycleOf(s, list, 1)
			zeroBeside(t, "CycleOf", cycle, e)
			phases, e := stack.Moved(s, list, 0)
			zeroBeside(t, "Moved", phases, e)
		}
		for _, cycle := range oddWalks() {
			stack.CheckCycle(s, cycle)
		}
	}
}

func oddTasks() []api.StackTask {
	out := []api.StackTask{{}, exampleTask(3, 2, 1, 5), exampleTask(0, 0, 0, 0), even(chain(60), 1, make([]int, 59)...)}
	for _, x := range wrongTasks() {
		out = append(out, x.x)
	}
	for _, x := range wrongNets() {
		out = append(out, x.x)
	}
	for _, list := range oddLists() {
		out = append(out, even(example(), 1, list...), api.StackTask{Net: example(), Phases: make([]int, 4), Weights: list})
	}
	for _, s := range oddStacks() {
		out = append(out, even(s, 1, make([]int, len(s.Pairs))...))
	}
	return out
}

// P1 of the document, for tasks.
func TestP1NoPanicOfTasks(t *testing.T) {
	for _, task := range oddTasks() {
		taskErrors(t, "a task", task)
		turns, flow, _, _ := stack.Corrections(task)
		for _, list := range append(oddLists(), turns, flow) {
			cost, e := stack.CheckCorrections(task, list)
			zeroBeside(t, "CheckCorrections", cost, e)
			value, e := stack.CheckFlow(task, list)
			zeroBeside(t, "CheckFlow", value, e)
		}
		for _, n := range oddNumbers() {
			phases, missed, e := stack.Solved(task, n)
			zeroBeside(t, "Solved", phases, e)
			if (len(missed) > 0) != (e == api.ErrBreak) {
				t.Errorf("Solved: error %d beside %v", e, missed)
			}
		}
		for _, cycle := range oddWalks() {
			closure, e := stack.Closure(task, cycle)
			zeroBeside(t, "Closure", closure, e)
		}
	}
}

// P1 of the document, for texts.
func TestP1NoPanicOfTexts(t *testing.T) {
	whole := exampleText
	for i := range len(whole) {
		for _, text := range []string{whole[:i], whole[i:], whole[:i] + "\x00" + whole[i:], whole[:i] + "9" + whole[i+1:], whole[:i] + "-" + whole[i:], whole[:i] + " " + whole[i:], whole[:i] + "\n" + whole[i+1:]} {
			s, line, e := stack.Parse(text)
			zeroBeside(t, text, s, e)
			if again, f := stack.Print(s); e == api.OK && (again != text || f != api.OK || line != 0) {
				t.Errorf("%q is the text of %q, error %d, line %d", text, again, f, line)
			}
			if (line != 0) != (e == api.ErrSyntax) {
				t.Errorf("%q: error %d at line %d", text, e, line)
			}
		}
	}
}

// spared returns the items in memory that goes on behind them, and a function that tells whether all of it is as it was.
func spared[T any](items []T, spare T) ([]T, func() bool) {
	memory := append(slices.Clone(items), spare, spare, spare)
	kept := slices.Clone(memory)
	return memory[:len(items)], func() bool { return reflect.DeepEqual(memory, kept) }
}

// arguments are what the functions take.
type arguments struct {
	task                  api.StackTask // with whole turns
	forest, turns, phases []int
	cycle                 []api.StackStep
}

func (r *numbers) arguments(n, most int) arguments {
	s := r.stack(n, most, 50)
	a := arguments{task: r.task(s, 3, 9), forest: r.forest(s), cycle: r.closedWalk(s, 40), phases: r.list(n, -99, 99)}
	a.turns, _, _, _ = stack.Corrections(a.task)
	return a
}

// calls are all functions with results that have memory, for arguments that are handed over.
func calls(a arguments) map[string]func() ([]any, api.Errno) {
	s := a.task.Net
	missing := slices.DeleteFunc(upTo(len(s.Pairs)), func(number int) bool { return slices.Contains(a.forest, number) })
	closing := api.StackTask{Net: s, Phases: phasesBehind(a.task, a.turns), Weights: a.task.Weights}
	open := api.StackTask{Net: s, Phases: slices.Clone(closing.Phases), Weights: a.task.Weights}
	open.Phases[missing[0]]++
	return map[string]func() ([]any, api.Errno){
		"SmallPairs":   func() ([]any, api.Errno) { x, e := stack.SmallPairs(s.Scenes, 9, 9); return []any{x}, e },
		"Parts":        func() ([]any, api.Errno) { x, e := stack.Parts(s); return []any{x}, e },
		"Bridges":      func() ([]any, api.Errno) { x, e := stack.Bridges(s); return []any{x}, e },
		"Lightest":     func() ([]any, api.Errno) { x, y, e := stack.Lightest(s); return []any{x, y}, e },
		"CycleOf":      func() ([]any, api.Errno) { x, e := stack.CycleOf(s, a.forest, missing[0]); return []any{x}, e },
		"Cycles":       func() ([]any, api.Errno) { x, e := stack.Cycles(s, a.forest); return []any{x}, e },
		"Triangles":    func() ([]any, api.Errno) { x, e := stack.Triangles(s); return []any{x}, e },
		"FirstOpen":    func() ([]any, api.Errno) { x, y, e := stack.FirstOpen(open); return []any{x, y}, e },
		"NetOf":        func() ([]any, api.Errno) { x, e := stack.NetOf(a.task); return []any{x}, e },
		"Corrections":  func() ([]any, api.Errno) { x, y, z, e := stack.Corrections(a.task); return []any{x, y, z}, e },
		"Undetermined": func() ([]any, api.Errno) { x, e := stack.Undetermined(a.task); return []any{x}, e },
		"Solved":       func() ([]any, api.Errno) { x, y, e := stack.Solved(closing, 0); return []any{x, y}, e },
		"Moved":        func() ([]any, api.Errno) { x, e := stack.Moved(s, a.phases, 1); return []any{x}, e },
		"Moved to 0":   func() ([]any, api.Errno) { x, e := stack.Moved(s, make([]int, len(a.phases)), 1); return []any{x}, e },
		"Parse":        func() ([]any, api.Errno) { x, y, e := stack.Parse(textOf(s)); return []any{x, y}, e },
		"Solved, open": func() ([]any, api.Errno) {
			x, y, e := stack.Solved(open, 0)
			if e != api.ErrBreak {
				return nil, e
			}
			return []any{x, y}, api.OK
		},
		"others": func() ([]any, api.Errno) {
			number, e := stack.CheckNet(s)
			length, f := stack.CheckForest(s, a.forest)
			closure, g := stack.Closure(a.task, a.cycle)
			cost, h := stack.CheckCorrections(a.task, a.turns)
			value, i := stack.CheckFlow(a.task, a.turns)
			text, j := stack.Print(s)
			return []any{number, e, length, f, closure, g, cost, h, value, i, text, j, stack.CheckCycle(s, a.cycle), stack.CheckTask(a.task)}, api.OK
		},
	}
}

// R3: nothing is written into an argument, and results share no memory with them, or with each other, or with further
// results.
func TestR3ArgumentsStay(t *testing.T) {
	r := numbers{20}
	a := r.arguments(12, 30)
	stay := make([]func() bool, 8)
	a.task.Net.Scenes, stay[0] = spared(a.task.Net.Scenes, api.StackScene{Name: "x"})
	a.task.Net.Pairs, stay[1] = spared(a.task.Net.Pairs, api.StackPair{First: 7})
	a.task.Phases, stay[2] = spared(a.task.Phases, 7)
	a.task.Weights, stay[3] = spared(a.task.Weights, 7)
	a.forest, stay[4] = spared(a.forest, 7)
	a.turns, stay[5] = spared(a.turns, 7)
	a.phases, stay[6] = spared(a.phases, 7)
	a.cycle, stay[7] = spared(a.cycle, api.StackStep{Pair: 7})
	for name, call := range calls(a) {
		one, e := call()
		two, f := call()
		if e != api.OK || f != api.OK {
			t.Errorf("%s: errors %d, %d", name, e, f)
		}
		want(t, name+" again", two, f, one, e)
		for i, result := range one {
			rest := fmt.Sprint(one[i+1:])
			cleared(result)
			if fmt.Sprint(one[i+1:]) != rest {
				t.Error(name, "has results that share memory")
			}
		}
		three, f := call()
		want(t, name+" once more", three, f, two, e)
	}
	for i, is := range stay {
		if !is() {
			t.Error("an argument is changed:", i)
		}
	}
}

// cleared overwrites the memory of a result, and what it has to spare.
func cleared(result any) {
	switch x := result.(type) {
	case api.StackNet:
		clear(x.Scenes[:cap(x.Scenes)])
		clear(x.Pairs[:cap(x.Pairs)])
	case api.UnwrapNet:
		clear(x.Edges[:cap(x.Edges)])
	case []api.StackPair:
		clear(x[:cap(x)])
	case []api.StackStep:
		clear(x[:cap(x)])
	case []int:
		clear(x[:cap(x)])
	}
}

// R3, for walks within a result: what is behind one of them is not another one.
func TestR3WalksShareNothing(t *testing.T) {
	s := complete(12)
	for name, call := range map[string]func() ([][]api.StackStep, api.Errno){
		"Cycles":    func() ([][]api.StackStep, api.Errno) { return stack.Cycles(s, upTo(11)) },
		"Triangles": func() ([][]api.StackStep, api.Errno) { return stack.Triangles(s) },
	} {
		one, e := call()
		two, f := call()
		want(t, name, one, e, two, api.OK)
		for i, walk := range one {
			clear(walk[:cap(walk)])
			if fmt.Sprint(one[i+1:]) != fmt.Sprint(two[i+1:]) {
				t.Error(name, "has walks that share memory")
			}
		}
		three, e := call()
		want(t, name+" again", three, e, two, f)
	}
}

// R4: calls with other arguments between are of no effect.
func TestR4EarlierCalls(t *testing.T) {
	r := numbers{21}
	small := calls(r.arguments(6, 10))
	large := calls(r.arguments(20, 150))
	for name, call := range small {
		one, e := call()
		for _, other := range large {
			other()
		}
		two, f := call()
		want(t, name, two, f, one, e)
	}
}
