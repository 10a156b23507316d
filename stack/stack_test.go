package stack_test

import (
	"testing"

	"swath/api"
	"swath/stack"
)

func TestP7_1CheckNet(t *testing.T) {
	for what, s := range anyStacks() {
		number, e := stack.CheckNet(s)
		want(t, what, number, e, 0, api.OK)
	}
	for what, x := range wrongStacks() {
		number, e := stack.CheckNet(x.x)
		want(t, what, number, e, x.number, x.e)
	}
}

func TestP7_1Names(t *testing.T) {
	for _, name := range []string{"a", "Z", "a-", "z9", "A0-", "abcdefghijkl", "a-----------"} {
		number, e := stack.CheckNet(api.StackNet{Scenes: namedScenes(name)})
		want(t, name, number, e, 0, api.OK)
	}
	number, e := stack.CheckNet(api.StackNet{Scenes: namedScenes("a", "A", "aa", "a-")})
	want(t, "names that are nearly alike", number, e, 0, api.OK)
}

// stackErrors calls each function that takes a stack and returns its error; no other result may be there.
func stackErrors(t *testing.T, what string, s api.StackNet) map[string]api.Errno {
	t.Helper()
	out := map[string]api.Errno{}
	put := func(name string, e api.Errno, results ...any) {
		out[name] = e
		for _, result := range results {
			switch x := result.(type) {
			case int:
				zeroBeside(t, what+", "+name, x, e)
			case string:
				zeroBeside(t, what+", "+name, x, e)
			case []int:
				zeroBeside(t, what+", "+name, x, e)
			case []api.StackStep:
				zeroBeside(t, what+", "+name, x, e)
			case [][]api.StackStep:
				zeroBeside(t, what+", "+name, x, e)
			default:
				t.Errorf("%s, %s: a result %v", what, name, x)
			}
		}
	}
	odd := []int{-7, -7}
	parts, e := stack.Parts(s)
	put("Parts", e, parts)
	bridges, e := stack.Bridges(s)
	put("Bridges", e, bridges)
	lightest, length, e := stack.Lightest(s)
	put("Lightest", e, lightest, length)
	length, e = stack.CheckForest(s, odd)
	put("CheckForest", e, length)
	cycle, e := stack.CycleOf(s, odd, -7)
	put("CycleOf", e, cycle)
	cycles, e := stack.Cycles(s, odd)
	put("Cycles", e, cycles)
	cycles, e = stack.Triangles(s)
	put("Triangles", e, cycles)
	put("CheckCycle", stack.CheckCycle(s, walk(-7, -7)))
	moved, e := stack.Moved(s, []int{-1 << 62}, -7)
	put("Moved", e, moved)
	text, e := stack.Print(s)
	put("Print", e, text)
	for name, e := range taskErrors(t, what, api.StackTask{Net: s, Phases: odd}) {
		out[name] = e
	}
	return out
}

// taskErrors calls each function that takes a task, with further arguments that are wrong.
func taskErrors(t *testing.T, what string, task api.StackTask) map[string]api.Errno {
	t.Helper()
	out := map[string]api.Errno{"CheckTask": stack.CheckTask(task)}
	closure, e := stack.Closure(task, walk(-7, -7))
	zeroBeside(t, what+", Closure", closure, e)
	out["Closure"] = e
	cycle, closure, e := stack.FirstOpen(task)
	zeroBeside(t, what+", FirstOpen", cycle, e)
	zeroBeside(t, what+", FirstOpen", closure, e)
	out["FirstOpen"] = e
	n, e := stack.NetOf(task)
	zeroBeside(t, what+", NetOf", n, e)
	out["NetOf"] = e
	turns, flow, cost, e := stack.Corrections(task)
	zeroBeside(t, what+", Corrections", turns, e)
	zeroBeside(t, what+", Corrections", flow, e)
	zeroBeside(t, what+", Corrections", cost, e)
	out["Corrections"] = e
	cost, e = stack.CheckCorrections(task, []int{1 << 62})
	zeroBeside(t, what+", CheckCorrections", cost, e)
	out["CheckCorrections"] = e
	value, e := stack.CheckFlow(task, []int{1 << 62})
	zeroBeside(t, what+", CheckFlow", value, e)
	out["CheckFlow"] = e
	undetermined, e := stack.Undetermined(task)
	zeroBeside(t, what+", Undetermined", undetermined, e)
	out["Undetermined"] = e
	phases, missed, e := stack.Solved(task, -7)
	zeroBeside(t, what+", Solved", phases, e)
	zeroBeside(t, what+", Solved", missed, e)
	out["Solved"] = e
	return out
}

// The error of a stack comes ahead of all others, whatever the further arguments are.
func TestP7_1ErrorsOfStacks(t *testing.T) {
	for what, x := range wrongStacks() {
		for name, e := range stackErrors(t, what, x.x) {
			if e != x.e {
				t.Errorf("%s: %s has the error %d, want %d", what, name, e, x.e)
			}
		}
	}
}
