package unwrap_test

import (
	"fmt"
	"math"
	"slices"
	"testing"

	"swath/api"
	"swath/unwrap"
)

func TestP5_6Along(t *testing.T) {
	m := example().Map
	row, column := phases(1, 1000, -1048, 1000, -1048), phases(4, 1000, -1048, 1000, -1048)
	long := make([]int, 200)
	for i := range long {
		long[i] = i % 2
	}
	for what, x := range map[string]struct {
		m      api.PhaseMap
		path   []int
		phases []int
	}{
		"the fifth example":          {m, []int{0, 1, 3}, []int{0, 1500, 3000}},
		"the fifth example, down":    {m, []int{0, 2, 3}, []int{0, -1500, -1096}},
		"around":                     {m, []int{3, 1, 0, 2, 3}, []int{-1096, -2596, -4096, -5596, -5192}},
		"no path":                    {m, nil, nil},
		"one pixel":                  {m, []int{3}, []int{-1096}},
		"to and fro":                 {m, []int{1, 3, 1, 3}, []int{1500, 3000, 1500, 3000}},
		"half a turn":                {row, []int{0, 1, 2, 3}, []int{1000, -1048, -3096, -5144}},
		"half a turn back":           {row, []int{3, 2, 1, 0}, []int{-1048, 1000, 3048, 5096}},
		"half a turn to and fro":     {row, []int{1, 2, 1, 0, 1}, []int{-1048, -3096, -1048, 1000, -1048}},
		"half a turn down":           {column, []int{0, 1, 2, 3}, []int{1000, -1048, -3096, -5144}},
		"half a turn up":             {column, []int{3, 2, 1, 0}, []int{-1048, 1000, 3048, 5096}},
		"nearly half a turn":         {phases(1, 2047, 0, -2048), []int{0, 1, 2, 1, 0}, []int{2047, 0, -2048, 0, 2047}},
		"around a void one":          {phases(2, 5, void, 6, 7), []int{0, 2, 3}, []int{5, 6, 7}},
		"more pixels than unwrapped": {api.PhaseMap{Rows: 64, Columns: 64, Phases: make([]int, 4096)}, []int{4095, 4031, 4032 - 2}, []int{0, 0, 0}},
		"as long as may be":          {phases(1, 0, 0), long, make([]int, 200)},
		"from -2048 to 2047":         {phases(1, -2048, 2047, -2048), []int{0, 1, 2}, []int{-2048, -2049, -2048}},
	} {
		got, e := unwrap.Along(x.m, x.path)
		want(t, what, got, e, x.phases, api.OK)
	}
}

func TestP5_6AlongErrors(t *testing.T) {
	hole := phases(2, 0, void, 5, 7, 8, 9)
	long := slices.Repeat([]int{0, 1}, 101)[:201]
	for what, x := range map[string]struct {
		m    api.PhaseMap
		path []int
		e    api.Errno
	}{
		"no such pixel":             {hole, []int{0, 6}, api.ErrMissing},
		"a pixel below 0":           {hole, []int{0, -1}, api.ErrMissing},
		"the first below 0":         {hole, []int{math.MinInt, 0}, api.ErrMissing},
		"the greatest":              {hole, []int{math.MaxInt}, api.ErrMissing},
		"a void one":                {hole, []int{0, 1}, api.ErrVoid},
		"a void one first":          {hole, []int{1, 0}, api.ErrVoid},
		"a void one far off":        {hole, []int{3, 1}, api.ErrVoid},
		"the same again":            {hole, []int{0, 0}, api.ErrGap},
		"two away":                  {hole, []int{0, 2}, api.ErrGap},
		"two rows away":             {phases(3, 0, 0, 0), []int{0, 2}, api.ErrGap},
		"aslant":                    {hole, []int{0, 4}, api.ErrGap},
		"aslant back":               {hole, []int{4, 2}, api.ErrGap},
		"the end of a row":          {hole, []int{2, 3}, api.ErrGap},
		"the end of a row, back":    {hole, []int{3, 2}, api.ErrGap},
		"the end of a longer one":   {phases(3, 0, 0, 0, 0, 0, 0, 0, 0, 0), []int{3, 4, 5, 6}, api.ErrGap},
		"a gap before a void one":   {hole, []int{0, 4, 1}, api.ErrGap},
		"a void one before a gap":   {hole, []int{0, 1, 5}, api.ErrVoid},
		"a gap before a missing":    {hole, []int{0, 0, 9}, api.ErrGap},
		"missing before void":       {hole, []int{9, 1}, api.ErrMissing},
		"201 pixels":                {phases(1, 0, 0), long, api.ErrLarge},
		"201 pixels, missing":       {phases(1, 0, 0), slices.Repeat([]int{7}, 201), api.ErrLarge},
		"not wrapped":               {phases(1, 0, 2048), []int{0}, api.ErrRange},
		"not wrapped below 0":       {phases(1, 0, -2049), nil, api.ErrRange},
		"not wrapped, and too long": {phases(1, -2049, 0), long, api.ErrRange},
		"half a map":                {api.PhaseMap{Rows: 2, Columns: 2, Phases: []int{5000}}, []int{0}, api.ErrShape},
	} {
		got, e := unwrap.Along(x.m, x.path)
		wantError(t, what, got, e, x.e)
	}
	for what, x := range wrongMaps() {
		got, e := unwrap.Along(x.x, nil)
		wantError(t, what, got, e, x.e)
		got, e = unwrap.Along(x.x, long)
		wantError(t, what, got, e, x.e)
	}
}

// walk returns a path of a map that goes on by chance to neighbours that are not void.
func (r *numbers) walk(m api.PhaseMap, steps int) []int {
	all := neighbours(m.Rows, m.Columns)
	var path []int
	at := slices.IndexFunc(m.Phases, func(phase int) bool { return phase != void })
	for range steps {
		if at < 0 {
			return path
		}
		path = append(path, at)
		var next []int
		for _, pair := range all {
			if other := pair[0] + pair[1] - at; (pair[0] == at || pair[1] == at) && m.Phases[other] != void {
				next = append(next, other)
			}
		}
		if len(next) == 0 {
			return path
		}
		at = next[r.below(len(next))]
	}
	return path
}

func TestP5_6AnyPath(t *testing.T) {
	r := numbers{22}
	for range 200 {
		m := r.wrappedMap(1+r.below(20), 1+r.below(20), r.below(9))
		for i := range m.Phases {
			if r.below(3) == 0 && m.Phases[i] != void {
				m.Phases[i] = (r.below(3) - 1) * 1024
			}
		}
		path := r.walk(m, 1+r.below(200))
		var right []int
		for i, pixel := range path {
			if i == 0 {
				right = append(right, m.Phases[pixel])
				continue
			}
			step := wrapped(m.Phases[pixel] - m.Phases[path[i-1]])
			if pixel < path[i-1] {
				step = -wrapped(m.Phases[path[i-1]] - m.Phases[pixel])
			}
			right = append(right, right[i-1]+step)
		}
		got, e := unwrap.Along(m, path)
		want(t, fmt.Sprint(m, path), got, e, right, api.OK)
	}
}

func TestP5_11WholeTurns(t *testing.T) {
	r := numbers{23}
	for range 60 {
		slope := r.smooth(1+r.below(12), 1+r.below(12))
		m := api.PhaseMap{Rows: slope.Rows, Columns: slope.Columns}
		for _, phase := range slope.Phases {
			m.Phases = append(m.Phases, wrapped(phase))
		}
		u, _, cost := unwrapped(t, even(m, 1+r.below(1000)))
		want(t, fmt.Sprint(slope), cost, api.OK, 0, api.OK)
		path := r.walk(m, 1+r.below(200))
		along, e := unwrap.Along(m, path)
		for i, phase := range along {
			if more := u.Phases[path[i]] - phase; e != api.OK || more%4096 != 0 || more != u.Phases[path[0]]-along[0] {
				t.Fatal(m, path, along, "but the field is", u, e)
			}
		}
	}
}

// smooth returns a map of phases whose neighbours differ by less than half a turn.
func (r *numbers) smooth(rows, columns int) api.PhaseMap {
	m := api.PhaseMap{Rows: rows, Columns: columns}
	by := [2]int{r.within(1500), r.within(1500)}
	for i := range rows * columns {
		m.Phases = append(m.Phases, i/columns*by[0]+i%columns*by[1]+r.within(270))
	}
	return m
}

func TestP5_11CutsOfCost0(t *testing.T) {
	r := numbers{24}
	cut := 0
	for range 200 {
		task := r.task(1+r.below(5), 1+r.below(5), r.below(9), 1)
		u, _, cost := unwrapped(t, task)
		cuts, e := unwrap.Cuts(task, u)
		if e != api.OK {
			t.Fatal(task, e)
		}
		cost0 := true
		for _, edge := range netOf(task).Edges {
			if slices.Contains(cuts, [2]int{edge.From, edge.To}) {
				cost0 = cost0 && edge.Weight == 0
				cut++
			}
		}
		if cost0 != (cost == 0) {
			t.Error(task, cost, cuts)
		}
	}
	if cut == 0 {
		t.Error("no pair is cut")
	}
}
