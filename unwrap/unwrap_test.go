package unwrap_test

import (
	"fmt"
	"slices"
	"testing"

	"swath/api"
	"swath/unwrap"
)

// unwrapped calls Unwrap and checks what it returns: the field and the flow prove each other.
func unwrapped(t *testing.T, task api.UnwrapTask) (u api.PhaseMap, flow []int, cost int) {
	t.Helper()
	u, flow, cost, e := unwrap.Unwrap(task)
	if e != api.OK || len(u.Phases) != len(task.Map.Phases) || u.Rows != task.Map.Rows || u.Columns != task.Map.Columns {
		t.Fatalf("%v: error %d, field %v", task, e, u)
	}
	n := netOf(task)
	parts := partsOf(n)
	turns := make([]int, n.Nodes)
	for i, phase := range u.Phases {
		if task.Map.Phases[i] == void || phase == void {
			if task.Map.Phases[i] != phase {
				t.Fatalf("%v: phase %d of pixel %d", task, phase, i)
			}
			continue
		}
		turns[i] = (phase - task.Map.Phases[i]) / 4096
		if task.Map.Phases[i]+4096*turns[i] != phase || slices.Index(parts, parts[i]) == i && turns[i] != 0 {
			t.Fatalf("%v: phase %d of pixel %d", task, phase, i)
		}
	}
	value, right := valueOf(n, flow)
	if !right || value != cost || costOf(n, turns) != cost {
		t.Fatalf("%v: cost %d, field costs %d, flow %v is worth %d", task, cost, costOf(n, turns), right, value)
	}
	return u, flow, cost
}

// tasks are tasks of all sizes, with void pixels and without, of few weights and of many.
func tasks(seed uint64) []api.UnwrapTask {
	r := numbers{seed}
	all := []api.UnwrapTask{
		example(), even(example().Map, 1), r.task(12, 12, 0, 1000), r.task(12, 12, 5, 1000), r.task(12, 12, 0, 1), r.task(12, 12, 2, 3),
		r.task(1, 64, 0, 1000), r.task(64, 1, 7, 1000), r.task(64, 2, 0, 2), r.task(2, 64, 6, 2), r.task(12, 12, 0, 0), even(phases(1, 5), 0), even(phases(2, void, void), 0),
	}
	for range 60 {
		all = append(all, r.task(1+r.below(6), 1+r.below(6), r.below(7), r.below(5)))
	}
	return all
}

func TestP5_5Unwrap(t *testing.T) {
	_, flow, cost := unwrapped(t, example())
	want(t, "the third example", cost, api.OK, 2, api.OK)
	value, e := unwrap.CheckFlow(example(), flow)
	want(t, "the third example", value, e, 2, api.OK)
	for _, task := range tasks(16) {
		u, flow, cost := unwrapped(t, task)
		again, e := unwrap.CheckField(task, u)
		want(t, "the field's cost", again, e, cost, api.OK)
		value, e := unwrap.CheckFlow(task, flow)
		want(t, "the flow's value", value, e, cost, api.OK)
	}
}

// The least cost is tried for, with all turns that may be.
func TestP5_5UnwrapSmallMaps(t *testing.T) {
	r := numbers{17}
	for range 40 {
		task := r.task(2, 2+r.below(2), r.below(5), 4)
		_, _, cost := unwrapped(t, task)
		_, least := bestTurns(netOf(task), 3)
		want(t, fmt.Sprint(task), cost, api.OK, least, api.OK)
	}
}

// Phases of a slope are found again, as all neighbours differ by less than half a turn.
func TestP5_5UnwrapSlopes(t *testing.T) {
	for _, by := range [][2]int{{700, 900}, {-2047, 2047}, {2047, -2048}, {0, 0}, {-2048, 1}} {
		slope := api.PhaseMap{Rows: 12, Columns: 12}
		m := api.PhaseMap{Rows: 12, Columns: 12}
		for i := range 144 {
			slope.Phases = append(slope.Phases, 100+i/12*by[0]+i%12*by[1])
			m.Phases = append(m.Phases, wrapped(slope.Phases[i]))
		}
		u, _, cost := unwrapped(t, even(m, 3))
		want(t, fmt.Sprint(by), u, api.OK, slope, api.OK)
		want(t, fmt.Sprint(by), cost, api.OK, 0, api.OK)
	}
}

func TestP5_5PartsOfMaps(t *testing.T) {
	task := api.UnwrapTask{Map: phases(1, 2000, -2000, void, 2000, -2000, 2000), Across: []int{1, 9, 9, 1, 0}}
	u, flow, cost := unwrapped(t, task)
	want(t, "three parts", u, api.OK, phases(1, 2000, 2096, void, 2000, 2096, 2000), api.OK)
	want(t, "three parts", flow, api.OK, []int{0, 0, 0}, api.OK)
	want(t, "three parts", cost, api.OK, 0, api.OK)
}

func TestP5_5CheckFlow(t *testing.T) {
	for what, x := range map[string]struct {
		t     api.UnwrapTask
		flow  []int
		value int
		e     api.Errno
	}{
		"the third example": {example(), []int{-2, 2, 2, -2}, 2, api.OK},
		"less":              {example(), []int{-1, 1, 1, -1}, 1, api.OK},
		"back":              {example(), []int{2, -2, -2, 2}, -2, api.OK},
		"none":              {example(), []int{0, 0, 0, 0}, 0, api.OK},
		"one pixel":         {even(phases(1, 0), 0), nil, 0, api.OK},
		"a void one":        {even(phases(1, 0, void, 0), 7), nil, 0, api.OK},
		"a void one's edge": {even(phases(1, 0, void, 0), 7), []int{0, 0}, 0, api.ErrShape},
		"a number missing":  {example(), []int{-2, 2, 2}, 0, api.ErrShape},
		"a number more":     {example(), []int{-2, 2, 2, -2, 0}, 0, api.ErrShape},
		"too much":          {example(), []int{-3, 3, 3, -3}, 0, api.ErrRange},
		"too much, open":    {example(), []int{-6, 0, 0, 0}, 0, api.ErrRange},
		"open":              {example(), []int{-2, 2, 2, 2}, 0, api.ErrOpen},
		"a wrong task":      {even(phases(1, 5000, 0), 1), nil, 0, api.ErrRange},
	} {
		value, e := unwrap.CheckFlow(x.t, x.flow)
		want(t, what, value, e, x.value, x.e)
	}
	r := numbers{18}
	for range 60 {
		task := r.task(1+r.below(8), 1+r.below(8), r.below(9), 1000)
		n := netOf(task)
		flow := r.flow(n, 20)
		right, _ := valueOf(n, flow)
		value, e := unwrap.CheckFlow(task, flow)
		want(t, fmt.Sprint(task), value, e, right, api.OK)
	}
}

func TestP5_5Cuts(t *testing.T) {
	hole := even(phases(2, 0, void, 0, 0, 0, 0), 0)
	for what, x := range map[string]struct {
		t    api.UnwrapTask
		u    api.PhaseMap
		cuts [][2]int
	}{
		"the third example":    {example(), example().Map, [][2]int{{1, 3}}},
		"a turn at the last":   {example(), phases(2, 0, 1500, -1500, 3000), [][2]int{{2, 3}}},
		"a turn at the first":  {example(), phases(2, 4096, 1500, -1500, -1096), [][2]int{{0, 1}, {0, 2}, {1, 3}}},
		"all shifted":          {example(), phases(2, 4096, 5596, 2596, 3000), [][2]int{{1, 3}}},
		"of weight 0":          {hole, phases(2, 0, void, 0, 4096, 0, 0), [][2]int{{3, 4}, {0, 3}}},
		"none":                 {hole, phases(2, 4096, void, 4096, 4096, 4096, 4096), nil},
		"one pixel":            {even(phases(1, 0), 0), phases(1, 0), nil},
		"a row, two turns off": {even(phases(1, 0, 0, 0), 5), phases(1, 0, -8192, -8192), [][2]int{{0, 1}}},
	} {
		cuts, e := unwrap.Cuts(x.t, x.u)
		want(t, what, cuts, e, x.cuts, api.OK)
	}
	r := numbers{19}
	for range 100 {
		task := r.task(1+r.below(12), 1+r.below(12), r.below(9), 3)
		turns := r.turns(len(task.Map.Phases), 1)
		var right [][2]int
		for _, edge := range netOf(task).Edges {
			if turns[edge.To]-turns[edge.From]+edge.Jump != 0 {
				right = append(right, [2]int{edge.From, edge.To})
			}
		}
		cuts, e := unwrap.Cuts(task, fieldWith(task, turns))
		want(t, fmt.Sprint(task), cuts, e, right, api.OK)
	}
}

func TestP5_5Undecided(t *testing.T) {
	ring := even(phases(3, 0, 1365, -1365, 0, void, -1365, 0, 1365, 1365), 0)
	for what, x := range map[string]struct {
		t     api.UnwrapTask
		pairs [][2]int
	}{
		"the third example":     {example(), nil},
		"the fourth example":    {even(example().Map, 1), [][2]int{{0, 1}, {2, 3}, {0, 2}, {1, 3}}},
		"two of four":           {api.UnwrapTask{Map: example().Map, Across: []int{9, 2}, Down: []int{3, 2}}, [][2]int{{2, 3}, {1, 3}}},
		"two others":            {api.UnwrapTask{Map: example().Map, Across: []int{2, 9}, Down: []int{2, 9}}, [][2]int{{0, 1}, {0, 2}}},
		"one of weight 0":       {api.UnwrapTask{Map: example().Map, Across: []int{9, 9}, Down: []int{0, 9}}, nil},
		"two of weight 0":       {api.UnwrapTask{Map: example().Map, Across: []int{9, 9}, Down: []int{0, 0}}, [][2]int{{0, 2}, {1, 3}}},
		"all of weight 0":       {ring, [][2]int{{0, 1}, {1, 2}, {6, 7}, {7, 8}, {0, 3}, {2, 5}, {3, 6}, {5, 8}}},
		"of no residue":         {even(phases(2, 0, 5, 3, 2047), 1), nil},
		"of no residue, wt 0":   {even(phases(2, 0, 5, 3, 2047), 0), [][2]int{{0, 1}, {2, 3}, {0, 2}, {1, 3}}},
		"one pixel":             {even(phases(1, 0), 0), nil},
		"a row":                 {api.UnwrapTask{Map: phases(1, 0, 2000, -2000, 0), Across: []int{1, 0, 1}}, [][2]int{{1, 2}}},
		"a row with a void one": {even(phases(1, 0, 2000, void, 0), 0), [][2]int{{0, 1}}},
	} {
		pairs, e := unwrap.Undecided(x.t)
		want(t, what, pairs, e, x.pairs, api.OK)
	}
}

func TestP5_5UndecidedAsProved(t *testing.T) {
	for _, task := range tasks(20) {
		n := netOf(task)
		_, flow, _ := unwrapped(t, task)
		most := mostBetween(n, flow)
		var right [][2]int
		for _, edge := range n.Edges {
			if a, b := edge.From, edge.To; most[a][b] == far || most[a][b] != -most[b][a] {
				right = append(right, [2]int{a, b})
			}
		}
		pairs, e := unwrap.Undecided(task)
		want(t, fmt.Sprint(task), pairs, e, right, api.OK)
	}
}

func TestP5_5UndecidedSmallMaps(t *testing.T) {
	r := numbers{21}
	for range 20 {
		task := r.task(2, 2+r.below(2), r.below(6), 2)
		n := netOf(task)
		best, _ := bestTurns(n, 3)
		parts := partsOf(n)
		var right [][2]int
		for _, edge := range n.Edges {
			differs := parts[edge.From] != parts[edge.To]
			for _, turns := range best {
				differs = differs || turns[edge.To]-turns[edge.From] != best[0][edge.To]-best[0][edge.From]
			}
			if differs {
				right = append(right, [2]int{edge.From, edge.To})
			}
		}
		pairs, e := unwrap.Undecided(task)
		want(t, fmt.Sprint(task), pairs, e, right, api.OK)
	}
}

// The fourth example, with all weights 1.
func TestP5_3BetweenPixels(t *testing.T) {
	n, e := unwrap.NetOf(even(example().Map, 1))
	between, f := unwrap.NetBetween(n, 0, 3)
	want(t, "the fourth example", between, f, api.Range{Lo: 0, Hi: 1}, e)
}
