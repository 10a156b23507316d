package fringe_test

import (
	"math"
	"math/big"
	"testing"

	"swath/api"
	"swath/fringe"
)

// combined returns what the phases of maps come to, wrapped; a pixel that is void in one of them is void.
func combined(item func(of []int) int, maps ...api.PhaseMap) api.PhaseMap {
	out := api.PhaseMap{Rows: maps[0].Rows, Columns: maps[0].Columns}
	for i := range maps[0].Phases {
		var of []int
		isVoid := false
		for _, m := range maps {
			of = append(of, m.Phases[i])
			isVoid = isVoid || m.Phases[i] == void
		}
		if isVoid {
			out.Phases = append(out.Phases, void)
		} else {
			out.Phases = append(out.Phases, wrapped(item(of)))
		}
	}
	return out
}

func first(of []int) int      { return of[0] }
func difference(of []int) int { return of[0] - of[1] }
func sum(of []int) int        { return of[0] + of[1] }
func closure(of []int) int    { return of[0] + of[1] - of[2] }

func TestP4_3Wrapped(t *testing.T) {
	m, e := fringe.Wrapped(phases(2, 0, 2047, 2048, 4095, 4096, void, -2048, -2049, -4096, -6144, 100000000, -100000000))
	want(t, "Wrapped", m, e, phases(2, 0, 2047, -2048, -1, 0, void, -2048, 2047, 0, -2048, 100000000-24414*4096, -100000000+24414*4096), api.OK)
	for n := -20000; n < 20000; n += 4000 {
		var of, right []int
		for i := n; i < n+4000; i++ {
			of, right = append(of, i), append(right, wrapped(i))
		}
		m, e := fringe.Wrapped(phases(64, append(of, make([]int, 96)...)...))
		want(t, "Wrapped", m, e, phases(64, append(right, make([]int, 96)...)...), api.OK)
	}
	r := numbers{51}
	for _, size := range sizes() {
		m := r.phases(size[0], size[1], api.MaxPhase, 5)
		got, e := fringe.Wrapped(m)
		want(t, "Wrapped", got, e, combined(first, m), api.OK)
		again, e := fringe.Wrapped(got)
		want(t, "Wrapped twice", again, e, got, api.OK)
	}
}

func TestP4_3DifferenceAndTotal(t *testing.T) {
	m, e := fringe.Difference(phases(1, 2047), phases(1, -2))
	want(t, "example 2, one", m, e, phases(1, -2047), api.OK)
	m, e = fringe.Total(phases(1, 2000), phases(1, 100))
	want(t, "example 2, two", m, e, phases(1, -1996), api.OK)
	m, e = fringe.Difference(phases(1, void, 5, void, 0, 1000, 100000000), phases(1, 3, void, void, 2048, -1048, -100000000))
	want(t, "Difference", m, e, phases(1, void, void, void, -2048, -2048, wrapped(200000000)), api.OK)
	m, e = fringe.Total(phases(1, void, 5, void, 1, -2048, 100000000, -100000000), phases(1, 3, void, void, 2047, -1, 100000000, -100000000))
	want(t, "Total", m, e, phases(1, void, void, void, -2048, 2047, wrapped(200000000), wrapped(-200000000)), api.OK)
	r := numbers{52}
	for _, size := range sizes() {
		for _, most := range []int{2048, 10000, api.MaxPhase} {
			a, b := r.phases(size[0], size[1], most, 6), r.phases(size[0], size[1], most, 6)
			m, e := fringe.Difference(a, b)
			want(t, "Difference", m, e, combined(difference, a, b), api.OK)
			m, e = fringe.Total(a, b)
			want(t, "Total", m, e, combined(sum, a, b), api.OK)
		}
	}
}

// P4.8: a total of a difference and its second map is the first one, wrapped.
func TestP4_8TotalOfDifference(t *testing.T) {
	r := numbers{53}
	for _, size := range sizes() {
		a, b := r.phases(size[0], size[1], api.MaxPhase, 7), r.phases(size[0], size[1], api.MaxPhase, 0)
		between, e := fringe.Difference(a, b)
		if e != api.OK {
			t.Fatal("Difference:", e)
		}
		back, e := fringe.Total(between, b)
		right, f := fringe.Wrapped(a)
		want(t, "Total of a Difference", back, e, right, f)
	}
}

func TestP4_6Closure(t *testing.T) {
	m, e := fringe.Closure(phases(1, 100), phases(1, 200), phases(1, 250))
	want(t, "example 6", m, e, phases(1, 50), api.OK)
	m, e = fringe.Closure(phases(2, void, 1, 1, void, 2000, 2000), phases(2, 1, void, 1, void, 48, 47), phases(2, 1, 1, void, void, 0, 0))
	want(t, "void ones", m, e, phases(2, void, void, void, void, -2048, 2047), api.OK)
	m, e = fringe.Closure(phases(1, 100000000, -100000000), phases(1, 100000000, -100000000), phases(1, -100000000, 100000000))
	want(t, "the greatest ones", m, e, phases(1, wrapped(300000000), wrapped(-300000000)), api.OK)
	r := numbers{54}
	for _, size := range sizes() {
		for _, most := range []int{2048, api.MaxPhase} {
			ab, bc, ac := r.phases(size[0], size[1], most, 8), r.phases(size[0], size[1], most, 8), r.phases(size[0], size[1], most, 8)
			m, e := fringe.Closure(ab, bc, ac)
			want(t, "Closure", m, e, combined(closure, ab, bc, ac), api.OK)
		}
	}
}

// modelPhase rounds a fraction: the nearest whole number, halves up, is that plus a half, rounded down.
func modelPhase(x api.FringeModel, row, column, height int) int {
	thousandths := big.NewInt(int64(x.Base))
	for _, f := range [][2]int{{row, x.PerRow}, {column, x.PerColumn}, {height, x.PerHeight}} {
		thousandths.Add(thousandths, new(big.Int).Mul(big.NewInt(int64(f[0])), big.NewInt(int64(f[1]))))
	}
	up := new(big.Rat).Add(new(big.Rat).SetFrac(thousandths, big.NewInt(1000)), big.NewRat(1, 2))
	// the quotient of Div is rounded down, as the denominator is above 0
	return int(new(big.Int).Div(up.Num(), up.Denom()).Int64())
}

func modelPhases(x api.FringeModel, h api.FloatMap) api.PhaseMap {
	out := api.PhaseMap{Rows: h.Rows, Columns: h.Columns}
	for i, height := range h.Data {
		out.Phases = append(out.Phases, modelPhase(x, i/h.Columns, i%h.Columns, int(height)))
	}
	return out
}

func TestP4_3ModelExamples(t *testing.T) {
	m, e := fringe.ModelPhases(model(1500, 0, 1000, 500), floats(1, 0, 3))
	want(t, "example 3", m, e, phases(1, 2, 4), api.OK)
	m, e = fringe.Flattened(phases(1, 10, 10), model(1500, 0, 1000, 500), floats(1, 0, 3))
	want(t, "example 3, flattened", m, e, phases(1, 8, 6), api.OK)
	m, e = fringe.ModelPhases(model(0, 0, 0, 1), floats(1, 0, minus, 499, 500, 501, 1499, 1500, -499, -500, -501, -1499, -1500, -1501))
	want(t, "halves up", m, e, phases(1, 0, 0, 0, 1, 1, 1, 2, 0, 0, -1, -1, -1, -2), api.OK)
	m, e = fringe.ModelPhases(model(7000, 1000, 10000, -100000), floats(2, 0, 0, 0, 1, 2, -3))
	want(t, "rows and columns", m, e, phases(2, 7, 17, 27, -92, -182, 328), api.OK)
	m, e = fringe.ModelPhases(model(5000000, 0, 0, 0), floats(3, 0, 0, 0))
	want(t, "not wrapped", m, e, phases(3, 5000, 5000, 5000), api.OK)
}

func TestP4_3ModelPhases(t *testing.T) {
	r := numbers{55}
	for _, size := range sizes() {
		for _, most := range []int{1, 700, 100000, api.MaxModel} {
			x, h := model(r.within(most), r.within(most), r.within(most), r.within(most)), r.floats(size[0], size[1], min(api.MaxHeight, api.MaxModel/most*5))
			m, e := fringe.ModelPhases(x, h)
			want(t, "ModelPhases", m, e, modelPhases(x, h), api.OK)
			of := r.phases(size[0], size[1], api.MaxPhase, 4)
			m, e = fringe.Flattened(of, x, h)
			want(t, "Flattened", m, e, combined(difference, of, modelPhases(x, h)), api.OK)
		}
	}
}

func TestP4_3ModelErrors(t *testing.T) {
	const most = api.MaxModel
	flat := floats(1, 0, 0)
	for _, n := range []int{most + 1, -most - 1, math.MaxInt, math.MinInt} {
		for _, x := range []api.FringeModel{model(n, 0, 0, 0), model(0, n, 0, 0), model(0, 0, n, 0), model(0, 0, 0, n)} {
			m, e := fringe.ModelPhases(x, flat)
			want(t, "a great number", m, e, api.PhaseMap{}, api.ErrRange)
			m, e = fringe.ModelPhases(x, floats(1, 0.5))
			want(t, "a great number ahead of the heights", m, e, api.PhaseMap{}, api.ErrRange)
			m, e = fringe.Flattened(phases(1, 0), x, flat)
			want(t, "a great number ahead of a clash", m, e, api.PhaseMap{}, api.ErrRange)
		}
	}
	for _, n := range []int{most, -most} {
		for _, x := range []api.FringeModel{model(n, 0, 0, 0), model(0, n, 0, 0), model(0, 0, n, 0), model(0, 0, 0, n)} {
			m, e := fringe.ModelPhases(x, flat)
			want(t, "the greatest number", m, e, modelPhases(x, flat), api.OK)
		}
	}
	for what, x := range wrongFloatMaps() {
		m, e := fringe.ModelPhases(model(1, 2, 3, 4), x.x)
		want(t, what, m, e, api.PhaseMap{}, x.e)
		m, e = fringe.Flattened(phases(1, 0), model(1, 2, 3, 4), x.x)
		want(t, what+", ahead of a clash", m, e, api.PhaseMap{}, x.e)
	}
}

func TestP4_3ModelLarge(t *testing.T) {
	const most = api.MaxModel
	large := phases(1, 0) // clashes
	for what, x := range map[string]struct {
		x     api.FringeModel
		h     api.FloatMap
		right int
	}{
		"the limit":                     {model(0, 0, 0, 1000000), floats(1, 0, 100000), 100000000},
		"the limit below 0":             {model(0, 0, 0, 1000000), floats(1, 0, -100000), -100000000},
		"rounded down to the limit":     {model(499, 0, 0, 1000000), floats(1, 0, 100000), 100000000},
		"rounded up to the limit":       {model(-500, 0, 0, -1000000), floats(1, 0, 100000), -100000000},
		"rounded beyond":                {model(500, 0, 0, 1000000), floats(1, 0, 100000), 100000001},
		"rounded beyond below 0":        {model(-501, 0, 0, 1000000), floats(1, 0, -100000), -100000001},
		"one more":                      {model(0, 0, 1000, 1000000), floats(1, 0, 100000), 100000001},
		"one less":                      {model(-1000, 0, 0, 1000000), floats(1, 0, -100000), -100000001},
		"the greatest":                  {model(most, most, most, most), floats(1, 0, 100000), 10000000200000},
		"the greatest below 0":          {model(-most, -most, -most, most), floats(1, 0, -100000), -10000000200000},
		"one turn more than the limit":  {model(0, 0, 4096000, 1000000), floats(1, 0, 100000), 100004096},
		"turns below 0 than the limit":  {model(-8192000, 0, 0, 1000000), floats(1, 0, -100000), -100008192},
		"the phase of a void pixel too": {model(0, 0, 0, most), floats(1, 0, 100000), 10000000000},
	} {
		m, e := fringe.ModelPhases(x.x, x.h)
		if max(x.right, -x.right) > api.MaxPhase {
			want(t, what, m, e, api.PhaseMap{}, api.ErrLarge)
			m, e = fringe.Flattened(large, x.x, x.h)
			want(t, what+", ahead of a clash", m, e, api.PhaseMap{}, api.ErrLarge)
			m, e = fringe.Flattened(phases(1, void, void), x.x, x.h)
			want(t, what+", void", m, e, api.PhaseMap{}, api.ErrLarge)
			continue
		}
		if e != api.OK || m.Phases[1] != x.right {
			t.Errorf("%s: %v, %d", what, m, e)
		}
	}
}

func TestP4_3FlattenedErrors(t *testing.T) {
	for what, x := range wrongMaps() {
		// the numbers of the model are not checked ahead of the map
		for _, h := range []api.FloatMap{floats(1, 0, 0, 0), {Rows: 1, Columns: 3}, floats(1, 0.5), floats(1, 100001)} {
			for _, of := range []api.FringeModel{{}, model(api.MaxModel, api.MaxModel, api.MaxModel, api.MaxModel)} {
				m, e := fringe.Flattened(x.x, of, h)
				want(t, what, m, e, api.PhaseMap{}, x.e)
			}
		}
		if x.e != api.ErrRange {
			m, e := fringe.Flattened(x.x, model(api.MaxModel+1, 0, 0, 0), floats(1, 0))
			want(t, what+" ahead of a wrong model", m, e, api.PhaseMap{}, x.e)
		}
	}
	for what, h := range map[string]api.FloatMap{"a row more": floats(2, 0, 0, 0, 0), "a column more": floats(1, 0, 0, 0), "as many": floats(2, 0, 0)} {
		m, e := fringe.Flattened(phases(1, 0, 0), model(0, 0, 0, 0), h)
		want(t, what, m, e, api.PhaseMap{}, api.ErrClash)
	}
	m, e := fringe.Flattened(phases(2, void, 5, 2047, -2048), model(-2000, 0, 0, 1000), floats(2, 7, 0, 0, minus))
	want(t, "void and wrapped", m, e, phases(2, void, 7, -2047, -2046), api.OK)
}
