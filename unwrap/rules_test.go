package unwrap_test

import (
	"fmt"
	"math"
	"reflect"
	"slices"
	"testing"

	"swath/api"
	"swath/unwrap"
)

func oddNumbers() []int {
	return []int{0, 1, 4, -1, 64, 200, 4096, void, math.MaxInt, math.MinInt, math.MaxInt - 63, math.MinInt + 63}
}

func oddLists() [][]int {
	lists := [][]int{nil, {0, 0}, {0, 1, 3}, {0, 0, 0, 0}, make([]int, 144), make([]int, 700)}
	for _, n := range oddNumbers() {
		lists = append(lists, []int{n}, []int{0, n}, []int{n, n}, []int{0, n, n, 0})
	}
	return lists
}

func oddNets() []api.UnwrapNet {
	r := numbers{29}
	out := []api.UnwrapNet{{}, net(1), net(2, 0, 1, 3, 5), r.net(6, 12, 1000, 1000), r.net(200, 600, 1000, 1000), chain(1000, 1000), net(4, 0, 1, 1, 0, 2, 3, 4, 0)}
	for _, x := range wrongNets() {
		out = append(out, x.x)
	}
	return out
}

func oddMaps() []api.PhaseMap {
	r := numbers{30}
	out := []api.PhaseMap{
		phases(1, 0), phases(2, 0, void, 1, 2), phases(1, void, void), r.wrappedMap(6, 7, 3), r.smooth(64, 64), r.wrappedMap(12, 12, 0),
		{Rows: math.MinInt, Columns: math.MinInt}, {Rows: math.MaxInt, Columns: math.MaxInt}, {Rows: 1 << 32, Columns: 1 << 32}, {Rows: 1 << 62, Columns: 4},
		{Rows: 64, Columns: 64}, {Phases: make([]int, 5000)}, {Rows: 2, Columns: 2, Phases: make([]int, 5000)},
	}
	for _, x := range wrongMaps() {
		out = append(out, x.x)
	}
	return out
}

func oddTasks() []api.UnwrapTask {
	r := numbers{31}
	out := []api.UnwrapTask{{}, example(), r.task(12, 12, 0, 1000), r.task(5, 7, 3, 9), {Across: make([]int, 1), Down: make([]int, 1)}}
	for _, m := range oddMaps() {
		out = append(out, api.UnwrapTask{Map: m}, api.UnwrapTask{Map: m, Across: []int{1, 1}, Down: []int{1, 1}})
	}
	for _, x := range wrongTasks() {
		out = append(out, x.x)
	}
	return out
}

// P1 of the document: every function terminates and does not panic, and beside an error all is zero.
func TestP1NoPanicOfNets(t *testing.T) {
	for _, n := range oddNets() {
		unwrap.CheckNet(n)
		unwrap.FormatNet(n)
		parts, e := unwrap.Parts(n)
		zeroBeside(t, "Parts", parts, e)
		turns, flow, cost, e := unwrap.SolveNet(n)
		zeroBeside(t, "SolveNet, turns", turns, e)
		zeroBeside(t, "SolveNet, flow", flow, e)
		zeroBeside(t, "SolveNet, cost", cost, e)
		classes, e := unwrap.NetClasses(n)
		zeroBeside(t, "NetClasses", classes, e)
		for _, list := range append(oddLists(), turns, flow) {
			cost, e := unwrap.CheckTurns(n, list)
			zeroBeside(t, "CheckTurns", cost, e)
			value, e := unwrap.CheckFlowOf(n, list)
			zeroBeside(t, "CheckFlowOf", value, e)
		}
		for _, from := range oddNumbers() {
			for _, to := range oddNumbers() {
				between, e := unwrap.NetBetween(n, from, to)
				zeroBeside(t, "NetBetween", between, e)
			}
		}
	}
}

// P1 of the document, for tasks.
func TestP1NoPanicOfTasks(t *testing.T) {
	for _, task := range oddTasks() {
		n, e := unwrap.NetOf(task)
		zeroBeside(t, "NetOf", n, e)
		if f := unwrap.CheckTask(task); e != f {
			t.Error("CheckTask and NetOf:", e, f)
		}
		u, flow, cost, e := unwrap.Unwrap(task)
		zeroBeside(t, "Unwrap, field", u, e)
		zeroBeside(t, "Unwrap, flow", flow, e)
		zeroBeside(t, "Unwrap, cost", cost, e)
		pairs, e := unwrap.Undecided(task)
		zeroBeside(t, "Undecided", pairs, e)
		for _, list := range oddLists() {
			value, e := unwrap.CheckFlow(task, list)
			zeroBeside(t, "CheckFlow", value, e)
		}
		for _, m := range append(oddMaps(), u, task.Map) {
			cost, e := unwrap.CheckField(task, m)
			zeroBeside(t, "CheckField", cost, e)
			cuts, e := unwrap.Cuts(task, m)
			zeroBeside(t, "Cuts", cuts, e)
		}
	}
}

// P1 of the document, for maps.
func TestP1NoPanicOfMaps(t *testing.T) {
	for _, m := range oddMaps() {
		for _, list := range oddLists() {
			along, e := unwrap.Along(m, list)
			zeroBeside(t, "Along", along, e)
		}
		for _, n := range oddNumbers() {
			u, e := unwrap.Shifted(m, n)
			zeroBeside(t, "Shifted", u, e)
			for _, other := range oddMaps() {
				u, others, e := unwrap.Joined(m, other, n)
				zeroBeside(t, "Joined", u, e)
				zeroBeside(t, "Joined, others", others, e)
			}
		}
		c := api.FloatMap{Rows: m.Rows, Columns: m.Columns}
		for _, phase := range m.Phases {
			c.Data = append(c.Data, float32(phase))
		}
		across, down, e := unwrap.WeightsOf(c)
		zeroBeside(t, "WeightsOf, across", across, e)
		zeroBeside(t, "WeightsOf, down", down, e)
	}
}

// P1 of the document, for texts.
func TestP1NoPanicOfTexts(t *testing.T) {
	whole := "3 0 1 -1 5 1 2 1000 3"
	for i := range len(whole) {
		for _, s := range []string{whole[:i], whole[i:], whole[:i] + "\x00" + whole[i:], whole[:i] + "9" + whole[i+1:], whole[:i] + "-" + whole[i:], whole[:i] + " " + whole[i:], whole[:i] + "\n" + whole[i+1:]} {
			n, e := unwrap.ParseNet(s)
			zeroBeside(t, s, n, e)
			if again := unwrap.FormatNet(n); e == api.OK && again != s {
				t.Errorf("%q is the text of %q", s, again)
			}
		}
	}
}

// spared returns the items in memory that goes on behind them, and a function that tells whether all of it is as it was.
func spared[T any](items []T, spare T) ([]T, func() bool) {
	memory := append(slices.Clone(items), spare, spare, spare)
	kept := slices.Clone(memory)
	return memory[:len(items)], func() bool { return reflect.DeepEqual(memory, kept) }
}

// calls are all functions with results that have memory, for arguments that are handed over.
func calls(n api.UnwrapNet, task api.UnwrapTask, u, other api.PhaseMap, c api.FloatMap, path []int) map[string]func() ([]any, api.Errno) {
	return map[string]func() ([]any, api.Errno){
		"Parts":      func() ([]any, api.Errno) { x, e := unwrap.Parts(n); return []any{x}, e },
		"SolveNet":   func() ([]any, api.Errno) { x, y, z, e := unwrap.SolveNet(n); return []any{x, y, z}, e },
		"NetClasses": func() ([]any, api.Errno) { x, e := unwrap.NetClasses(n); return []any{x}, e },
		"NetOf":      func() ([]any, api.Errno) { x, e := unwrap.NetOf(task); return []any{x}, e },
		"Unwrap":     func() ([]any, api.Errno) { x, y, z, e := unwrap.Unwrap(task); return []any{x, y, z}, e },
		"Cuts":       func() ([]any, api.Errno) { x, e := unwrap.Cuts(task, u); return []any{x}, e },
		"Undecided":  func() ([]any, api.Errno) { x, e := unwrap.Undecided(task); return []any{x}, e },
		"Along":      func() ([]any, api.Errno) { x, e := unwrap.Along(task.Map, path); return []any{x}, e },
		"WeightsOf":  func() ([]any, api.Errno) { x, y, e := unwrap.WeightsOf(c); return []any{x, y}, e },
		"Shifted":    func() ([]any, api.Errno) { x, e := unwrap.Shifted(u, 0); return []any{x}, e },
		"Shifted, 1": func() ([]any, api.Errno) { x, e := unwrap.Shifted(u, 1); return []any{x}, e },
		"Joined":     func() ([]any, api.Errno) { x, y, e := unwrap.Joined(u, other, 3); return []any{x, y}, e },
		"Joined, all": func() ([]any, api.Errno) {
			x, y, e := unwrap.Joined(u, u, u.Columns)
			return []any{x, y}, e
		},
		"ParseNet": func() ([]any, api.Errno) { x, e := unwrap.ParseNet("3 0 1 1 5 1 2 0 3 2 0 0 2"); return []any{x}, e },
		"others": func() ([]any, api.Errno) {
			edge, e := unwrap.CheckNet(n)
			cost, f := unwrap.CheckTurns(n, path[:n.Nodes])
			between, g := unwrap.NetBetween(n, 0, 5)
			field, h := unwrap.CheckField(task, u)
			return []any{edge, e, cost, f, between, g, field, h, unwrap.CheckTask(task), unwrap.FormatNet(n)}, api.OK
		},
	}
}

// R3: nothing is written into an argument, and results share no memory with them, or with each other, or with further
// results.
func TestR3ArgumentsStay(t *testing.T) {
	r := numbers{32}
	n, task := r.net(30, 70, 9, 9), r.task(8, 9, 7, 3)
	path := r.walk(task.Map, 60)
	u := fieldWith(task, r.turns(72, 3))
	other := columns(u, 6, 9)
	c := api.FloatMap{Rows: 12, Columns: 12, Data: slices.Repeat([]float32{5, 900, 1000}, 48)}
	flow := make([]int, 70)
	var stay [9]func() bool
	n.Edges, stay[0] = spared(n.Edges, api.UnwrapEdge{From: 7})
	task.Map.Phases, stay[1] = spared(task.Map.Phases, 7)
	task.Across, stay[2] = spared(task.Across, 7)
	task.Down, stay[3] = spared(task.Down, 7)
	path, stay[4] = spared(path, 7)
	u.Phases, stay[5] = spared(u.Phases, 7)
	other.Phases, stay[6] = spared(other.Phases, 7)
	c.Data, stay[7] = spared(c.Data, 7)
	flow, stay[8] = spared(flow, 7)
	unwrap.CheckFlowOf(n, flow)
	unwrap.CheckFlow(task, flow)
	for name, call := range calls(n, task, u, other, c, path) {
		one, e := call()
		two, f := call()
		if e != api.OK || f != api.OK {
			t.Errorf("%s: errors %d, %d", name, e, f)
		}
		want(t, name+" again", two, f, one, e)
		for i, result := range one {
			kept := fmt.Sprint(one[i+1:])
			cleared(result)
			if fmt.Sprint(one[i+1:]) != kept {
				t.Error(name, "has results that share memory")
			}
		}
		three, f := call()
		want(t, name+" once more", three, f, two, e)
	}
	for i, is := range stay {
		if !is() {
			t.Error("an argument is changed:", i)
		}
	}
}

// cleared overwrites the memory of a result, and what it has to spare.
func cleared(result any) {
	switch x := result.(type) {
	case api.UnwrapNet:
		clear(x.Edges[:cap(x.Edges)])
	case api.PhaseMap:
		clear(x.Phases[:cap(x.Phases)])
	case []int:
		clear(x[:cap(x)])
	case [][2]int:
		clear(x[:cap(x)])
	}
}

// R4: calls with other arguments between are of no effect.
func TestR4EarlierCalls(t *testing.T) {
	r := numbers{33}
	task, c, path := r.task(3, 4, 0, 3), floats(2, 900, 400, 1000, 0), []int{0, 1, 2, 3, 7, 6, 5, 4, 8}
	u := fieldWith(task, r.turns(12, 3))
	small := calls(r.net(6, 12, 3, 3), task, u, columns(u, 1, 4), c, path)
	large := calls(r.net(200, 600, 1000, 1000), r.task(12, 12, 0, 1000), r.smooth(12, 12), r.smooth(12, 12), c, make([]int, 200))
	for name, call := range small {
		one, e := call()
		for _, other := range large {
			other()
		}
		two, f := call()
		want(t, name, two, f, one, e)
	}
}
