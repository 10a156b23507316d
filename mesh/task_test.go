package mesh_test

import (
	"fmt"
	"maps"
	"math"
	"slices"
	"testing"

	"swath/api"
	"swath/mesh"
)

// tasks are tasks of all kinds over right nets.
func tasks() map[string]api.MeshTask {
	r := numbers{12}
	tasks := map[string]api.MeshTask{"the example": single(5, 3, 9), "equal costs": single(3, 3, 9), "a free edge": single(0, 3, 9), "all free": single(0, 0, 0)}
	nets := anyNets()
	for i, what := range slices.Sorted(maps.Keys(nets)) {
		tasks[what] = r.task(nets[what], []int{1000, 3, 1, 0, 20}[i%5])
	}
	steep := tasks["any 17"]
	steep.Phases = slices.Clone(steep.Phases)
	for i, p := range steep.Net.Points {
		steep.Phases[i] = wrappedOf(40*p.X + 1500*p.Y)
	}
	tasks["steep"] = steep
	halves := tasks["a grid"]
	halves.Phases = r.list(36, 0, 1)
	for i := range halves.Phases {
		halves.Phases[i] *= -2048
	}
	tasks["halves of a turn"] = halves
	return tasks
}

func TestP6_4CheckTask(t *testing.T) {
	for what, task := range tasks() {
		if e := mesh.CheckTask(task); e != api.OK {
			t.Errorf("%s: error %d", what, e)
		}
	}
	for what, x := range wrongTasks() {
		if e := mesh.CheckTask(x.x); e != x.e {
			t.Errorf("%s: error %d, want %d", what, e, x.e)
		}
	}
	limits := single(0, 1000, 1)
	limits.Phases = []int{-2048, 2047, 0}
	if e := mesh.CheckTask(limits); e != api.OK {
		t.Error("the limits: error", e)
	}
}

func TestP6_4Differences(t *testing.T) {
	l, e := mesh.Differences(single().Net, single().Phases)
	want(t, "the example", l, e, []int{1500, -1500, 1096}, api.OK)
	l, e = mesh.Differences(single().Net, []int{0, -2048, 1})
	want(t, "half a turn back", l, e, []int{-2048, 1, -2047}, api.OK)
	l, e = mesh.Differences(single().Net, []int{-2048, 0, 2047})
	want(t, "half a turn", l, e, []int{-2048, -1, 2047}, api.OK)
	l, e = mesh.Differences(single().Net, []int{-1024, 1024, 1023})
	want(t, "the least and the greatest", l, e, []int{-2048, 2047, -1}, api.OK)
	for what, task := range tasks() {
		l, e := mesh.Differences(task.Net, task.Phases)
		want(t, what, l, e, differencesOf(task.Net, task.Phases), api.OK)
	}
}

func TestP6_4Closures(t *testing.T) {
	l, e := mesh.Closures(single().Net, single().Phases)
	want(t, "the example", l, e, []int{1}, api.OK)
	l, e = mesh.Closures(single().Net, []int{0, -1500, 1500})
	want(t, "the opposite", l, e, []int{-1}, api.OK)
	l, e = mesh.Closures(single().Net, []int{0, 700, -700})
	want(t, "no turn", l, e, []int{0}, api.OK)
	l, e = mesh.Closures(single().Net, []int{0, 0, -2048})
	want(t, "half a turn, both ways", l, e, []int{0}, api.OK)
	l, e = mesh.Closures(single().Net, []int{0, -2048, 0})
	want(t, "half a turn, there and back", l, e, []int{-1}, api.OK)
	seen := map[int]int{}
	for what, task := range tasks() {
		l, e := mesh.Closures(task.Net, task.Phases)
		want(t, what, l, e, closuresOf(task.Net, task.Phases), api.OK)
		for _, closure := range l {
			seen[closure]++
		}
	}
	if len(seen) != 3 || seen[-1] == 0 || seen[0] == 0 || seen[1] == 0 {
		t.Error("closures:", seen)
	}
}

func TestP6_4Errors(t *testing.T) {
	for what, x := range wrongNets() {
		l, e := mesh.Differences(x.x, []int{5000})
		wantError(t, what+", differences", l, e, x.e)
		l, e = mesh.Closures(x.x, []int{5000})
		wantError(t, what+", closures", l, e, x.e)
	}
	for what, x := range wrongPhases() {
		l, e := mesh.Differences(square(), x.x)
		wantError(t, what+", differences", l, e, x.e)
		l, e = mesh.Closures(square(), x.x)
		wantError(t, what+", closures", l, e, x.e)
	}
}

func TestP6_5CheckTurns(t *testing.T) {
	for _, x := range []struct{ turns, cost []int }{
		{[]int{0, 1, 0}, []int{3}}, {[]int{-1, 0, 0}, []int{5}}, {[]int{0, 0, -1}, []int{9}}, {[]int{-100, -99, 0}, []int{797}}, {[]int{1, 1, -1}, []int{17}}, {[]int{99, 100, 0}, []int{795}},
	} {
		cost, e := mesh.CheckTurns(single(5, 3, 9), x.turns)
		want(t, fmt.Sprint(x.turns), cost, e, x.cost[0], api.OK)
	}
	r := numbers{13}
	all := tasks()
	for _, what := range slices.Sorted(maps.Keys(all)) {
		task := all[what]
		for _, most := range []int{0, 1, 48} {
			turns := turnsWith(task.Net, task.Phases, r.list(len(task.Phases), -most, most))
			cost, e := mesh.CheckTurns(task, turns)
			want(t, what, cost, e, costOf(task.Costs, turns), api.OK)
			i := r.below(len(turns))
			turns[i] += 1 - 2*r.below(2)
			first := slices.IndexFunc(sumsOf(task.Net, unwrappedOf(task, turns)), func(sum int) bool { return sum != 0 })
			cost, e = mesh.CheckTurns(task, turns)
			want(t, what+", changed", cost, e, first, api.ErrCycle)
		}
	}
}

// unwrappedOf returns the differences with turns.
func unwrappedOf(task api.MeshTask, turns []int) []int {
	l := differencesOf(task.Net, task.Phases)
	for i, turn := range turns {
		l[i] += 4096 * turn
	}
	return l
}

func TestP6_5CheckTurnsErrors(t *testing.T) {
	flat := api.MeshTask{Net: square(), Phases: make([]int, 5), Costs: make([]int, 8)}
	for what, x := range wrongTurns() {
		cost, e := mesh.CheckTurns(flat, x.x)
		want(t, what, cost, e, x.number, x.e)
	}
	for what, x := range wrongTasks() {
		for _, turns := range [][]int{nil, make([]int, 8), make([]int, 3)} {
			cost, e := mesh.CheckTurns(x.x, turns)
			wantError(t, what, cost, e, x.e)
		}
	}
	for what, turns := range map[string][]int{"no turn": {0, 0, 0}, "the wrong way": {1, 0, 0}, "0 to 2 too": {-1, 1, 0}, "two turns": {0, 2, 0}, "too many": {-100, 100, -100}} {
		cost, e := mesh.CheckTurns(single(5, 3, 9), turns)
		wantError(t, what, cost, e, api.ErrCycle)
	}
}

func TestP6_5CheckPotentials(t *testing.T) {
	for _, potential := range []int{-3, -2, -1, 0, 1, 2, 3} {
		bound, e := mesh.CheckPotentials(single(5, 3, 9), []int{potential})
		want(t, fmt.Sprint(potential), bound, e, -potential, api.OK)
	}
	for _, potential := range []int{-1000000, -1000, -4, 4, 5, 9, 1000000} {
		bound, e := mesh.CheckPotentials(single(5, 3, 9), []int{potential})
		wantError(t, fmt.Sprint(potential), bound, e, api.ErrProof)
	}
	flat := api.MeshTask{Net: square(), Phases: make([]int, 5), Costs: []int{9, 9, 2, 9, 9, 9, 9, 9}}
	bound, e := mesh.CheckPotentials(flat, []int{7, 9, 5, 1})
	want(t, "no closures", bound, e, 0, api.OK)
	bound, e = mesh.CheckPotentials(flat, []int{6, 9, 5, 1})
	wantError(t, "too far apart", bound, e, api.ErrProof)
	r := numbers{14}
	all := tasks()
	for _, what := range slices.Sorted(maps.Keys(all)) {
		task := all[what]
		for _, most := range []int{0, 1, 30, 1000} {
			potentials := r.list(len(task.Net.Triangles), -most, most)
			right := proves(task, potentials)
			bound, e := mesh.CheckPotentials(task, potentials)
			if right {
				want(t, what, bound, e, boundOf(task, potentials), api.OK)
			} else {
				wantError(t, what, bound, e, api.ErrProof)
			}
		}
	}
}

// Each edge bounds the potentials at its sides.
func TestP6_5CheckPotentialsAtEachEdge(t *testing.T) {
	task := api.MeshTask{Net: square(), Phases: []int{0, 1500, -1500, -1096, 7}, Costs: slices.Repeat([]int{50}, 8)}
	if closures := closuresOf(task.Net, task.Phases); !slices.ContainsFunc(closures, func(closure int) bool { return closure != 0 }) {
		t.Fatal("closures:", closures)
	}
	potentials := []int{10, 23, -7, -20}
	sides := [][2]int{{0, -1}, {-1, 1}, {1, 0}, {2, -1}, {0, 2}, {3, -1}, {2, 3}, {3, 1}}
	for i, side := range sides {
		apart := 0
		if side[0] >= 0 {
			apart = potentials[side[0]]
		}
		if side[1] >= 0 {
			apart -= potentials[side[1]]
		}
		task.Costs[i] = max(apart, -apart)
		bound, e := mesh.CheckPotentials(task, potentials)
		want(t, fmt.Sprint("just right at ", i), bound, e, boundOf(task, potentials), api.OK)
		task.Costs[i]--
		bound, e = mesh.CheckPotentials(task, potentials)
		wantError(t, fmt.Sprint("wrong at ", i), bound, e, api.ErrProof)
		task.Costs[i] = 50
	}
}

// proves tells whether potentials are right.
func proves(task api.MeshTask, potentials []int) bool {
	for i, edge := range edgesOf(task.Net) {
		apart := 0
		if left := leftOf(task.Net, edge[0], edge[1]); left >= 0 {
			apart += potentials[left]
		}
		if right := leftOf(task.Net, edge[1], edge[0]); right >= 0 {
			apart -= potentials[right]
		}
		if apart > task.Costs[i] || -apart > task.Costs[i] {
			return false
		}
	}
	return true
}

func boundOf(task api.MeshTask, potentials []int) int {
	bound := 0
	for i, closure := range closuresOf(task.Net, task.Phases) {
		bound -= closure * potentials[i]
	}
	return bound
}

func TestP6_5CheckPotentialsErrors(t *testing.T) {
	for what, x := range wrongTasks() {
		for _, potentials := range [][]int{nil, make([]int, 4), make([]int, 1)} {
			bound, e := mesh.CheckPotentials(x.x, potentials)
			wantError(t, what, bound, e, x.e)
		}
	}
	task := api.MeshTask{Net: square(), Phases: make([]int, 5), Costs: make([]int, 8)}
	for _, x := range []struct {
		potentials []int
		e          api.Errno
	}{
		{nil, api.ErrShape}, {make([]int, 3), api.ErrShape}, {make([]int, 5), api.ErrShape}, {make([]int, 8), api.ErrShape}, {[]int{math.MaxInt}, api.ErrShape},
		{[]int{0, 0, 0, 1000001}, api.ErrRange}, {[]int{-1000001, 0, 0, 0}, api.ErrRange}, {[]int{0, 1, 0, math.MinInt}, api.ErrRange}, {[]int{1, 0, math.MaxInt, 0}, api.ErrRange},
		{[]int{0, 0, 0, 1000000}, api.ErrProof}, {[]int{-1000000, 0, 0, 0}, api.ErrProof}, {[]int{0, 0, 1, 0}, api.ErrProof}, {[]int{1, 1, 1, 1}, api.ErrProof},
	} {
		bound, e := mesh.CheckPotentials(task, x.potentials)
		wantError(t, fmt.Sprint(x.potentials), bound, e, x.e)
	}
}

func TestP6_5Field(t *testing.T) {
	field, e := mesh.Field(single().Net, single().Phases, []int{0, 1, 0})
	want(t, "the example", field, e, []int{0, 1500, 2596}, api.OK)
	field, e = mesh.Field(single().Net, single().Phases, []int{-1, 0, 0})
	want(t, "another one", field, e, []int{0, -2596, -1500}, api.OK)
	r := numbers{15}
	all := tasks()
	for _, what := range slices.Sorted(maps.Keys(all)) {
		task := all[what]
		for _, most := range []int{0, 1, 48} {
			more := r.list(len(task.Phases), -most, most)
			more[0] = 0
			var right []int
			for i, phase := range task.Phases {
				right = append(right, phase+4096*more[i])
			}
			turns := turnsWith(task.Net, task.Phases, more)
			field, e := mesh.Field(task.Net, task.Phases, turns)
			want(t, what, field, e, right, api.OK)
			turns[r.below(len(turns))]++
			field, e = mesh.Field(task.Net, task.Phases, turns)
			wantError(t, what+", changed", field, e, api.ErrCycle)
		}
	}
}

func TestP6_5FieldErrors(t *testing.T) {
	for what, x := range wrongNets() {
		field, e := mesh.Field(x.x, []int{5000}, []int{101})
		wantError(t, what, field, e, x.e)
	}
	for what, x := range wrongPhases() {
		field, e := mesh.Field(square(), x.x, []int{101})
		wantError(t, what, field, e, x.e)
	}
	for what, x := range wrongTurns() {
		field, e := mesh.Field(square(), make([]int, 5), x.x)
		wantError(t, what, field, e, x.e)
	}
}

func TestP6_10FieldsDifferByWholeTurns(t *testing.T) {
	for what, task := range tasks() {
		turns, _, _, e := mesh.Unwrap(task)
		field, f := mesh.Field(task.Net, task.Phases, turns)
		if e != api.OK || f != api.OK {
			t.Fatalf("%s: errors %d, %d", what, e, f)
		}
		want(t, what+", the first phase", field[0], f, task.Phases[0], api.OK)
		for i, phase := range field {
			if wrappedOf(phase) != task.Phases[i] {
				t.Errorf("%s: the phase %d does not fit %d", what, phase, task.Phases[i])
			}
		}
		var wrapped []int
		for _, edge := range edgesOf(task.Net) {
			wrapped = append(wrapped, wrappedOf(field[edge[1]]-field[edge[0]]))
		}
		l, e := mesh.Differences(task.Net, task.Phases)
		want(t, what+", the differences", wrapped, e, l, api.OK)
	}
}
