package mesh_test

import (
	"fmt"
	"maps"
	"math"
	"reflect"
	"slices"
	"testing"

	"swath/api"
	"swath/mesh"
)

func oddNumbers() []int {
	return []int{0, 1, -1, 4, 40, 100, 101, 2047, 2048, 10000, 10001, 1000001, math.MaxInt, math.MinInt, math.MaxInt - 1, math.MinInt + 1}
}

func oddLists() [][]int {
	lists := [][]int{nil, {0, 0}, {0, 1, 3}, make([]int, 4), make([]int, 5), make([]int, 8), make([]int, 700)}
	for _, n := range oddNumbers() {
		lists = append(lists, []int{n}, []int{0, n, n}, []int{n, n, n, n, n}, []int{0, n, 0, n, 0, n, 0, n})
	}
	return lists
}

func oddPoints() [][]api.MeshPoint {
	var out [][]api.MeshPoint
	for _, x := range wrongPoints() {
		out = append(out, x.x)
	}
	for _, l := range onALine() {
		out = append(out, l)
	}
	for _, n := range oddNumbers() {
		out = append(out, places(n, n), places(0, n, n, 0, 1, 1), places(n, 0, 0, n, 0, 0, n, n), places(n, 5, n, 6, n, 7, 0, 0))
	}
	sets := pointSets()
	for _, what := range slices.Sorted(maps.Keys(sets))[:20] {
		out = append(out, sets[what])
	}
	return out
}

func oddNets() []api.MeshNet {
	out := []api.MeshNet{{}, square(), single().Net, twoWheels()}
	for _, x := range wrongNets() {
		out = append(out, x.x)
	}
	for _, l := range oddPoints() {
		out = append(out, api.MeshNet{Points: l, Triangles: triples(0, 1, 2)}, api.MeshNet{Points: l})
	}
	for _, n := range oddNumbers() {
		out = append(out, api.MeshNet{Points: square().Points, Triangles: [][3]int{{0, 1, 4}, {n, n, n}}}, api.MeshNet{Points: square().Points, Triangles: [][3]int{{0, 1, n}}})
	}
	return out
}

// P1 of the document: every function terminates and does not panic, and beside an error all is zero.
func TestP1NoPanicOfPoints(t *testing.T) {
	for _, l := range oddPoints() {
		mesh.CheckPoints(l)
		corners, e := mesh.Hull(l)
		zeroBeside(t, "Hull", corners, e)
		triangles, e := mesh.Triangulate(l)
		zeroBeside(t, "Triangulate", triangles, e)
		var s []api.MeshScatterer
		for i, p := range l {
			s = append(s, api.MeshScatterer{Place: p, Amplitudes: []int{i, p.X}})
		}
		for _, num := range oddNumbers() {
			for _, den := range oddNumbers() {
				chosen, e := mesh.Chosen(s, api.Frac{Num: num, Den: den})
				zeroBeside(t, "Chosen", chosen, e)
			}
		}
		if len(l) < 4 {
			continue
		}
		turn, e := mesh.Turn(l[0], l[1], l[2])
		zeroBeside(t, "Turn", turn, e)
		for i := range 4 {
			inside, e := mesh.InCircle([3]api.MeshPoint{l[i], l[(i+1)%4], l[(i+2)%4]}, l[(i+3)%4])
			zeroBeside(t, "InCircle", inside, e)
		}
	}
	for _, list := range oddLists() {
		dispersion, e := mesh.Dispersion(list)
		zeroBeside(t, "Dispersion", dispersion, e)
	}
}

// P1 of the document, for nets.
func TestP1NoPanicOfNets(t *testing.T) {
	for _, n := range oddNets() {
		mesh.CheckNet(n)
		edge, e := mesh.FirstIllegal(n)
		zeroBeside(t, "FirstIllegal", edge, e)
		edges, e := mesh.Edges(n)
		zeroBeside(t, "Edges", edges, e)
		sides, e := mesh.Sides(n)
		zeroBeside(t, "Sides", sides, e)
		text, e := mesh.Print(n)
		zeroBeside(t, "Print", text, e)
		for _, kept := range []int{0, 3, 8, 100} {
			of, e := mesh.Components(n, make([]bool, kept))
			zeroBeside(t, "Components", of, e)
		}
		for _, list := range oddLists() {
			l, e := mesh.Differences(n, list)
			zeroBeside(t, "Differences", l, e)
			l, e = mesh.Closures(n, list)
			zeroBeside(t, "Closures", l, e)
			l, e = mesh.Field(n, make([]int, len(n.Points)), list)
			zeroBeside(t, "Field", l, e)
			l, e = mesh.Field(n, list, make([]int, 8))
			zeroBeside(t, "Field", l, e)
		}
	}
}

// P1 of the document, for tasks.
func TestP1NoPanicOfTasks(t *testing.T) {
	odd := []api.MeshTask{{}, single(1, 2, 3)}
	for _, x := range wrongTasks() {
		odd = append(odd, x.x)
	}
	for _, list := range oddLists() {
		odd = append(odd, api.MeshTask{Net: square(), Phases: list, Costs: make([]int, 8)}, api.MeshTask{Net: square(), Phases: make([]int, 5), Costs: list})
	}
	for _, task := range odd {
		f := mesh.CheckTask(task)
		turns, potentials, cost, e := mesh.Unwrap(task)
		if e != f {
			t.Error("CheckTask and Unwrap:", f, e)
		}
		zeroBeside(t, "Unwrap, turns", turns, e)
		zeroBeside(t, "Unwrap, potentials", potentials, e)
		zeroBeside(t, "Unwrap, cost", cost, e)
		undecided, e := mesh.Undecided(task)
		zeroBeside(t, "Undecided", undecided, e)
		for _, list := range append(oddLists(), turns, potentials) {
			if number, e := mesh.CheckTurns(task, list); e != api.ErrCycle {
				zeroBeside(t, "CheckTurns", number, e)
			}
			bound, e := mesh.CheckPotentials(task, list)
			zeroBeside(t, "CheckPotentials", bound, e)
		}
	}
}

// P1 of the document, for texts.
func TestP1NoPanicOfTexts(t *testing.T) {
	whole := textOf(square())
	for i := range len(whole) {
		for _, s := range []string{whole[:i], whole[i:], whole[:i] + "\x00" + whole[i:], whole[:i] + "9" + whole[i+1:], whole[:i] + "-" + whole[i:], whole[:i] + " " + whole[i:], whole[:i] + "\n" + whole[i+1:]} {
			n, line, e := mesh.Parse(s)
			zeroBeside(t, s, n, e)
			if again, f := mesh.Print(n); e == api.OK && (again != s || f != api.OK || line != 0) {
				t.Errorf("%q is the text of %q, error %d, line %d", s, again, f, line)
			}
			if (line != 0) != (e == api.ErrSyntax) {
				t.Errorf("%q: error %d at line %d", s, e, line)
			}
		}
	}
}

// spared returns the items in memory that goes on behind them, and a function that tells whether all of it is as it was.
func spared[T any](items []T, spare T) ([]T, func() bool) {
	memory := append(slices.Clone(items), spare, spare, spare)
	kept := slices.Clone(memory)
	return memory[:len(items)], func() bool { return reflect.DeepEqual(memory, kept) }
}

// calls are all functions with results that have memory, for arguments that are handed over.
func calls(task api.MeshTask, turns []int, kept []bool, s []api.MeshScatterer) map[string]func() ([]any, api.Errno) {
	n := task.Net
	return map[string]func() ([]any, api.Errno){
		"Chosen":      func() ([]any, api.Errno) { x, e := mesh.Chosen(s, api.Frac{Num: 1, Den: 3}); return []any{x}, e },
		"Hull":        func() ([]any, api.Errno) { x, e := mesh.Hull(n.Points); return []any{x}, e },
		"Triangulate": func() ([]any, api.Errno) { x, e := mesh.Triangulate(n.Points); return []any{x}, e },
		"Edges":       func() ([]any, api.Errno) { x, e := mesh.Edges(n); return []any{x}, e },
		"Sides":       func() ([]any, api.Errno) { x, e := mesh.Sides(n); return []any{x}, e },
		"Components":  func() ([]any, api.Errno) { x, e := mesh.Components(n, kept); return []any{x}, e },
		"Differences": func() ([]any, api.Errno) { x, e := mesh.Differences(n, task.Phases); return []any{x}, e },
		"Closures":    func() ([]any, api.Errno) { x, e := mesh.Closures(n, task.Phases); return []any{x}, e },
		"Unwrap":      func() ([]any, api.Errno) { x, y, z, e := mesh.Unwrap(task); return []any{x, y, z}, e },
		"Undecided":   func() ([]any, api.Errno) { x, e := mesh.Undecided(task); return []any{x}, e },
		"Field":       func() ([]any, api.Errno) { x, e := mesh.Field(n, task.Phases, turns); return []any{x}, e },
		"Parse":       func() ([]any, api.Errno) { x, y, e := mesh.Parse(textOf(n)); return []any{x, y}, e },
		"others": func() ([]any, api.Errno) {
			point, e := mesh.CheckPoints(n.Points)
			triangle, f := mesh.CheckNet(n)
			illegal, g := mesh.FirstIllegal(n)
			cost, h := mesh.CheckTurns(task, turns)
			bound, i := mesh.CheckPotentials(task, make([]int, len(n.Triangles)))
			text, j := mesh.Print(n)
			dispersion, k := mesh.Dispersion(s[0].Amplitudes)
			return []any{point, e, triangle, f, illegal, g, cost, h, bound, i, text, j, dispersion, k, mesh.CheckTask(task)}, api.OK
		},
	}
}

// arguments returns a task, right turns for it, some edges, and scatterers at its points.
func (r *numbers) arguments(points, most, cost int) (api.MeshTask, []int, []bool, []api.MeshScatterer) {
	task := r.task(r.net(r.points(points, most)), cost)
	turns := turnsWith(task.Net, task.Phases, r.list(points, -2, 2))
	var kept []bool
	for range turns {
		kept = append(kept, r.below(2) == 0)
	}
	var s []api.MeshScatterer
	for _, p := range task.Net.Points {
		s = append(s, api.MeshScatterer{Place: p, Amplitudes: r.list(8, 1, 3000)})
	}
	return task, turns, kept, s
}

// R3: nothing is written into an argument, and results share no memory with them, or with each other, or with further
// results.
func TestR3ArgumentsStay(t *testing.T) {
	r := numbers{20}
	task, turns, kept, s := r.arguments(30, 50, 9)
	stay := make([]func() bool, 8)
	task.Net.Points, stay[0] = spared(task.Net.Points, api.MeshPoint{X: 7})
	task.Net.Triangles, stay[1] = spared(task.Net.Triangles, [3]int{7})
	task.Phases, stay[2] = spared(task.Phases, 7)
	task.Costs, stay[3] = spared(task.Costs, 7)
	turns, stay[4] = spared(turns, 7)
	kept, stay[5] = spared(kept, true)
	s[0].Amplitudes, stay[6] = spared(s[0].Amplitudes, 7)
	s, stay[7] = spared(s, api.MeshScatterer{Amplitudes: []int{7}})
	for name, call := range calls(task, turns, kept, s) {
		one, e := call()
		two, f := call()
		if e != api.OK || f != api.OK {
			t.Errorf("%s: errors %d, %d", name, e, f)
		}
		want(t, name+" again", two, f, one, e)
		for i, result := range one {
			rest := fmt.Sprint(one[i+1:])
			cleared(result)
			if fmt.Sprint(one[i+1:]) != rest {
				t.Error(name, "has results that share memory")
			}
		}
		three, f := call()
		want(t, name+" once more", three, f, two, e)
	}
	for i, is := range stay {
		if !is() {
			t.Error("an argument is changed:", i)
		}
	}
}

// cleared overwrites the memory of a result, and what it has to spare.
func cleared(result any) {
	switch x := result.(type) {
	case api.MeshNet:
		clear(x.Points[:cap(x.Points)])
		clear(x.Triangles[:cap(x.Triangles)])
	case []int:
		clear(x[:cap(x)])
	case [][2]int:
		clear(x[:cap(x)])
	case [][3]int:
		clear(x[:cap(x)])
	}
}

// R4: calls with other arguments between are of no effect.
func TestR4EarlierCalls(t *testing.T) {
	r := numbers{21}
	small := calls(r.arguments(7, 4, 2))
	large := calls(r.arguments(40, 10000, 1000))
	for name, call := range small {
		one, e := call()
		for _, other := range large {
			other()
		}
		two, f := call()
		want(t, name, two, f, one, e)
	}
}
