package fringe_test

import (
	"math"
	"testing"

	"swath/api"
	"swath/fringe"
)

// The phases of example 4, and what lies around.
func exampleMap() api.PhaseMap { return phases(2, 0, 1024, -1024, -2048) }

func phaseAt(m api.PhaseMap, row, column int) int { return m.Phases[row*m.Columns+column] }

// step returns the step from a pixel that has a next one, and whether both are there.
func step(m api.PhaseMap, row, column int, down bool) (int, bool) {
	from, to := phaseAt(m, row, column), 0
	if down {
		to = phaseAt(m, row+1, column)
	} else {
		to = phaseAt(m, row, column+1)
	}
	return wrapped(to - from), from != void && to != void
}

// turnsAround adds the steps of each border of a box, and tells whether all are there.
func turnsAround(m api.PhaseMap, b api.FringeBox) (int, bool) {
	sum, whole := 0, true
	add := func(sign, row, column int, down bool) {
		n, is := step(m, row, column, down)
		sum, whole = sum+sign*n, whole && is
	}
	for i := range b.Wide {
		add(1, b.Row, b.Column+i, false)
		add(-1, b.Row+b.High, b.Column+i, false)
	}
	for i := range b.High {
		add(1, b.Row+i, b.Column+b.Wide, true)
		add(-1, b.Row+i, b.Column, true)
	}
	return sum / 4096, whole
}

func residues(m api.PhaseMap) []api.FringeResidue {
	var out []api.FringeResidue
	for row := range m.Rows - 1 {
		for column := range m.Columns - 1 {
			if turns, whole := turnsAround(m, box(row, column, 1, 1)); whole && turns != 0 {
				out = append(out, residue(row, column, turns))
			}
		}
	}
	return out
}

func TestP4_5StepExamples(t *testing.T) {
	for what, x := range map[string]struct {
		m     api.PhaseMap
		at    [2]int
		down  bool
		right int
		e     api.Errno
	}{
		"example 4, above":         {exampleMap(), [2]int{0, 0}, false, 1024, api.OK},
		"example 4, at the right":  {exampleMap(), [2]int{0, 1}, true, 1024, api.OK},
		"example 4, below":         {exampleMap(), [2]int{1, 0}, false, -1024, api.OK},
		"example 4, at the left":   {exampleMap(), [2]int{0, 0}, true, -1024, api.OK},
		"half a turn":              {phases(1, 0, 2048), [2]int{0, 0}, false, -2048, api.OK},
		"half a turn back":         {phases(2, 2048, 0), [2]int{0, 0}, true, -2048, api.OK},
		"nearly half a turn":       {phases(1, -1, 2046), [2]int{0, 0}, false, 2047, api.OK},
		"over the end of the turn": {phases(1, 2047, -2048), [2]int{0, 0}, false, 1, api.OK},
		"many turns":               {phases(1, -100000000, 100000000), [2]int{0, 0}, false, wrapped(200000000), api.OK},
		"further on":               {phases(3, 1, 2, 4, 8, 16, 32, 64, 128, 256), [2]int{1, 1}, false, 16, api.OK},
		"further on, down":         {phases(3, 1, 2, 4, 8, 16, 32, 64, 128, 256), [2]int{1, 1}, true, 112, api.OK},
		"none at the right":        {exampleMap(), [2]int{0, 1}, false, 0, api.ErrRange},
		"none below":               {exampleMap(), [2]int{1, 0}, true, 0, api.ErrRange},
		"in the corner":            {exampleMap(), [2]int{1, 1}, true, 0, api.ErrRange},
		"in the corner, right":     {exampleMap(), [2]int{1, 1}, false, 0, api.ErrRange},
		"above the map":            {exampleMap(), [2]int{-1, 0}, true, 0, api.ErrRange},
		"above, to the right":      {exampleMap(), [2]int{-1, 0}, false, 0, api.ErrRange},
		"at the left of it":        {exampleMap(), [2]int{0, -1}, false, 0, api.ErrRange},
		"at the left, down":        {exampleMap(), [2]int{1, -1}, true, 0, api.ErrRange},
		"below the map":            {exampleMap(), [2]int{2, 0}, false, 0, api.ErrRange},
		"at the right of it":       {exampleMap(), [2]int{0, 2}, true, 0, api.ErrRange},
		"at the least places":      {exampleMap(), [2]int{math.MinInt, math.MinInt}, true, 0, api.ErrRange},
		"at the greatest row":      {exampleMap(), [2]int{math.MaxInt, 0}, true, 0, api.ErrRange},
		"at the greatest column":   {exampleMap(), [2]int{0, math.MaxInt}, false, 0, api.ErrRange},
		"the first one is void":    {phases(1, void, 0), [2]int{0, 0}, false, 0, api.ErrVoid},
		"the second one is void":   {phases(2, 0, void), [2]int{0, 0}, true, 0, api.ErrVoid},
		"both are void":            {phases(1, void, void), [2]int{0, 0}, false, 0, api.ErrVoid},
		"another one is void":      {phases(2, 5, 7, 11, void), [2]int{0, 0}, true, 6, api.OK},
		"void, and none below":     {phases(1, void, 0), [2]int{0, 0}, true, 0, api.ErrRange},
		"one pixel":                {phases(1, 0), [2]int{0, 0}, false, 0, api.ErrRange},
	} {
		n, e := fringe.StepAt(x.m, x.at, x.down)
		want(t, what, n, e, x.right, x.e)
	}
}

func TestP4_5Steps(t *testing.T) {
	r := numbers{71}
	for _, size := range sizes()[:9] {
		m := r.phases(size[0], size[1], api.MaxPhase, 6)
		for row := -1; row <= m.Rows; row++ {
			for column := -1; column <= m.Columns; column++ {
				for _, down := range []bool{false, true} {
					right, e := 0, api.ErrRange
					if row >= 0 && column >= 0 && (down && row < m.Rows-1 && column < m.Columns || !down && row < m.Rows && column < m.Columns-1) {
						n, is := step(m, row, column, down)
						right, e = map[bool]int{true: n}[is], map[bool]api.Errno{false: api.ErrVoid}[is]
					}
					n, f := fringe.StepAt(m, [2]int{row, column}, down)
					want(t, "StepAt", n, f, right, e)
				}
			}
		}
	}
}

func TestP4_5ResidueExamples(t *testing.T) {
	for what, x := range map[string]struct {
		m     api.PhaseMap
		right []api.FringeResidue
	}{
		"example 4":        {exampleMap(), []api.FringeResidue{residue(0, 0, 1)}},
		"the other way":    {phases(2, 0, -1024, 1024, -2048), []api.FringeResidue{residue(0, 0, -1)}},
		"not wrapped":      {phases(2, 4096, 1024-8192, -1024, 2048), []api.FringeResidue{residue(0, 0, 1)}},
		"two in a row":     {phases(2, 0, 1024, 0, -1024, -2048, -1024), []api.FringeResidue{residue(0, 0, 1), residue(0, 1, -1)}},
		"two in a column":  {phases(3, 0, 1024, -1024, -2048, 0, 1024), []api.FringeResidue{residue(0, 0, 1), residue(1, 0, -1)}},
		"row by row":       {phases(3, 0, 1024, 0, -1024, -2048, -1024, 0, 1024, 0), []api.FringeResidue{residue(0, 0, 1), residue(0, 1, -1), residue(1, 0, -1), residue(1, 1, 1)}},
		"void corners":     {phases(3, 0, 1024, 0, -1024, -2048, void, 0, 1024, 0), []api.FringeResidue{residue(0, 0, 1), residue(1, 0, -1)}},
		"all void":         {phases(2, void, void, void, void), nil},
		"upper left void":  {phases(2, void, 1024, -1024, -2048), nil},
		"upper right void": {phases(2, 0, void, -1024, -2048), nil},
		"lower left void":  {phases(2, 0, 1024, void, -2048), nil},
		"lower right void": {phases(2, 0, 1024, -1024, void), nil},
		"a plane":          {phases(2, 0, 2000, 2000, 4000), nil},
		"half turns":       {phases(2, 0, -2048, -2048, 0), nil},
		"a row alone":      {phases(1, 0, 1024, 2048, -1024), nil},
		"a column alone":   {phases(4, 0, 1024, 2048, -1024), nil},
		"one pixel":        {phases(1, 0), nil},
	} {
		l, e := fringe.Residues(x.m)
		want(t, what, l, e, x.right, api.OK)
	}
}

func TestP4_5Residues(t *testing.T) {
	r := numbers{72}
	signs := map[int]int{}
	for _, size := range sizes() {
		for _, holes := range []int{0, 4, 20} {
			for _, most := range []int{2048, api.MaxPhase} {
				m := r.phases(size[0], size[1], most, holes)
				l, e := fringe.Residues(m)
				want(t, "Residues", l, e, residues(m), api.OK)
				for _, x := range l {
					signs[x.Turns]++
				}
			}
		}
	}
	if signs[1] == 0 || signs[-1] == 0 || len(signs) != 2 {
		t.Error("the turns of residues:", signs)
	}
}

func TestP4_5TurnsExamples(t *testing.T) {
	ring := phases(3, 0, 700, 1400, -700, void, 2048, -1400, -2048, 2700)
	for what, x := range map[string]struct {
		m     api.PhaseMap
		b     api.FringeBox
		right int
		e     api.Errno
	}{
		"example 4":                 {exampleMap(), box(0, 0, 1, 1), 1, api.OK},
		"a void pixel inside":       {ring, box(0, 0, 2, 2), 1, api.OK},
		"a void corner":             {ring, box(0, 0, 1, 1), 0, api.ErrVoid},
		"a void upper border":       {ring, box(1, 0, 1, 2), 0, api.ErrVoid},
		"a void left border":        {ring, box(0, 1, 2, 1), 0, api.ErrVoid},
		"two turns":                 {phases(2, 0, 1365, 2730, 0, -1365, 2048, -2731, 0), box(0, 0, 1, 3), 2, api.OK},
		"a row more":                {exampleMap(), box(0, 0, 2, 1), 0, api.ErrRange},
		"a column more":             {exampleMap(), box(0, 0, 1, 2), 0, api.ErrRange},
		"a row too low":             {exampleMap(), box(1, 0, 1, 1), 0, api.ErrRange},
		"a column too far":          {exampleMap(), box(0, 1, 1, 1), 0, api.ErrRange},
		"above":                     {exampleMap(), box(-1, 0, 1, 1), 0, api.ErrRange},
		"at the left":               {exampleMap(), box(0, -1, 1, 1), 0, api.ErrRange},
		"not high":                  {exampleMap(), box(0, 0, 0, 1), 0, api.ErrRange},
		"not wide":                  {exampleMap(), box(0, 0, 1, 0), 0, api.ErrRange},
		"below 0":                   {exampleMap(), box(1, 1, -1, -1), 0, api.ErrRange},
		"the greatest box":          {exampleMap(), box(0, 0, math.MaxInt, math.MaxInt), 0, api.ErrRange},
		"the greatest box, low":     {exampleMap(), box(1, 1, math.MaxInt, 1), 0, api.ErrRange},
		"the greatest box, far":     {exampleMap(), box(0, 1, 1, math.MaxInt), 0, api.ErrRange},
		"the greatest place":        {exampleMap(), box(math.MaxInt, math.MaxInt, 1, 1), 0, api.ErrRange},
		"the least place":           {exampleMap(), box(math.MinInt, math.MinInt, 1, 1), 0, api.ErrRange},
		"the least place, greatest": {exampleMap(), box(math.MinInt, 0, math.MaxInt, 1), 0, api.ErrRange},
		"void, and out of range":    {phases(2, void, 0, 0, 0), box(0, 0, 2, 1), 0, api.ErrRange},
		"one pixel":                 {phases(1, 0), box(0, 0, 0, 0), 0, api.ErrRange},
	} {
		n, e := fringe.TurnsAround(x.m, x.b)
		want(t, what, n, e, x.right, x.e)
	}
}

// Each void pixel of the border is an error, none inside or outside.
func TestP4_5TurnsVoid(t *testing.T) {
	r := numbers{73}
	for i := range 9 * 10 {
		m := r.phases(9, 10, 2047, 0)
		m.Phases[i] = void
		b := box(2, 3, 4, 5)
		row, column := i/10, i%10
		inside := row > 2 && row < 6 && column > 3 && column < 8
		outside := row < 2 || row > 6 || column < 3 || column > 8
		right, e := 0, api.ErrVoid
		if inside || outside {
			right, _ = turnsAround(m, b)
			e = api.OK
		}
		n, f := fringe.TurnsAround(m, b)
		want(t, "TurnsAround", n, f, right, e)
	}
}

func TestP4_5Turns(t *testing.T) {
	r := numbers{74}
	most := 0
	for range 2000 {
		m := r.phases(2+r.below(12), 2+r.below(12), []int{2048, 20000, api.MaxPhase}[r.below(3)], []int{0, 0, 30}[r.below(3)])
		b := box(r.below(m.Rows-1), r.below(m.Columns-1), 0, 0)
		b.High, b.Wide = 1+r.below(m.Rows-1-b.Row), 1+r.below(m.Columns-1-b.Column)
		right, whole := turnsAround(m, b)
		n, e := fringe.TurnsAround(m, b)
		if whole {
			want(t, "TurnsAround", n, e, right, api.OK)
		} else {
			want(t, "TurnsAround", n, e, 0, api.ErrVoid)
		}
		most = max(most, n, -n)
	}
	if most < 2 {
		t.Error("no box has more than one turn")
	}
}

// P4.9: the turns around a box are the sum of those of its plaquettes.
func TestP4_9TurnsAreSums(t *testing.T) {
	r := numbers{75}
	for range 300 {
		m := r.phases(2+r.below(15), 2+r.below(15), api.MaxPhase, 0)
		b := box(r.below(m.Rows-1), r.below(m.Columns-1), 0, 0)
		b.High, b.Wide = 1+r.below(m.Rows-1-b.Row), 1+r.below(m.Columns-1-b.Column)
		l, e := fringe.Residues(m)
		sum := 0
		for _, x := range l {
			if x.Row >= b.Row && x.Row < b.Row+b.High && x.Column >= b.Column && x.Column < b.Column+b.Wide {
				sum += x.Turns
			}
		}
		n, f := fringe.TurnsAround(m, b)
		want(t, "TurnsAround", n, f, sum, e)
	}
}

// P4.9: a model whose steps are less than half a turn has no residues, wrapped or not.
func TestP4_9ModelsHaveNoResidues(t *testing.T) {
	r := numbers{76}
	for range 100 {
		x := model(r.within(api.MaxModel), r.within(1000000), r.within(1000000), r.within(1000))
		h := r.floats(2+r.below(20), 2+r.below(20), 500)
		m, e := fringe.ModelPhases(x, h)
		if e != api.OK {
			t.Fatal("ModelPhases:", e)
		}
		for _, f := range []func(api.PhaseMap) (api.PhaseMap, api.Errno){fringe.Wrapped, func(m api.PhaseMap) (api.PhaseMap, api.Errno) { return m, api.OK }} {
			of, e := f(m)
			l, g := fringe.Residues(of)
			want(t, "Residues of a model", l, g, []api.FringeResidue(nil), e)
			n, e := fringe.TurnsAround(of, box(0, 0, of.Rows-1, of.Columns-1))
			want(t, "TurnsAround a model", n, e, 0, api.OK)
		}
	}
}
