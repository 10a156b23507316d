package fringe_test

import (
	"math"
	"reflect"
	"slices"
	"strings"
	"testing"

	"swath/api"
	"swath/fringe"
)

func oddNumbers() []int {
	return []int{0, 1, 4, -1, 64, 4096, void, math.MaxInt, math.MinInt, math.MaxInt - 63, math.MinInt + 63}
}

func oddMaps() []api.PhaseMap {
	r := numbers{95}
	out := []api.PhaseMap{
		phases(1, 0), phases(2, 0, void, 1, 2), r.phases(6, 7, api.MaxPhase, 3), phases(1, void, void),
		{Rows: math.MinInt, Columns: math.MinInt}, {Rows: math.MaxInt, Columns: math.MaxInt}, {Rows: 1 << 32, Columns: 1 << 32},
		{Rows: 64, Columns: 64}, {Phases: make([]int, 5000)}, {Rows: 2, Columns: 2, Phases: make([]int, 5000)},
	}
	for _, x := range wrongMaps() {
		out = append(out, x.x)
	}
	return out
}

func oddFloatMaps() []api.FloatMap {
	r := numbers{96}
	out := []api.FloatMap{
		floats(1, minus), floats(2, 0, 700, -1, 2), r.floats(6, 7, api.MaxHeight),
		{Rows: math.MinInt, Columns: math.MinInt}, {Rows: math.MaxInt, Columns: math.MaxInt}, {Rows: 1 << 32, Columns: 1 << 32}, {Data: make([]float32, 5000)},
	}
	for _, x := range wrongFloatMaps() {
		out = append(out, x.x)
	}
	return out
}

func oddImages() []api.RadarImage {
	r := numbers{97}
	out := []api.RadarImage{
		row(1, 2i), r.image(6, 7, api.MaxSample), row(minusZero64),
		{Lines: math.MinInt, Samples: math.MinInt}, {Lines: math.MaxInt, Samples: math.MaxInt}, {Lines: 1 << 32, Samples: 1 << 32}, {Data: make([]complex64, 5000)},
	}
	for _, x := range wrongImages() {
		out = append(out, x.x)
	}
	return out
}

func oddFields() []api.RadarField {
	r := numbers{98}
	out := []api.RadarField{
		field(1, 1, 2i), r.field(6, 7, api.MaxField),
		{Lines: math.MinInt, Samples: math.MinInt}, {Lines: math.MaxInt, Samples: math.MaxInt}, {Lines: 1 << 32, Samples: 1 << 32}, {Data: make([]complex128, 5000)},
	}
	for _, x := range wrongFields() {
		out = append(out, x.x)
	}
	return out
}

// P1 of the document: every function terminates and does not panic, and beside an error all is zero.
func TestP1NoPanicOfMaps(t *testing.T) {
	for _, m := range oddMaps() {
		fringe.CheckMap(m)
		for name, f := range mapFunctions() {
			got, e := f(m)
			zeroBeside(t, name, got, e)
		}
		for name, f := range mapsFunctions() {
			for _, other := range oddMaps() {
				got, e := f(m, other)
				zeroBeside(t, name, got, e)
			}
		}
		for _, n := range oddNumbers() {
			for _, k := range oddNumbers() {
				step, e := fringe.StepAt(m, [2]int{n, k}, n > k)
				zeroBeside(t, "StepAt", step, e)
				for _, b := range []api.FringeBox{box(n, k, 1, 1), box(0, 0, n, k), box(n, 0, k, 1), box(0, n, 1, k), box(n, k, n, k)} {
					turns, e := fringe.TurnsAround(m, b)
					zeroBeside(t, "TurnsAround", turns, e)
				}
			}
			counts, e := fringe.Histogram(m, n)
			zeroBeside(t, "Histogram", counts, e)
		}
		for _, h := range oddFloatMaps() {
			fringe.CheckFloatMap(h)
			for _, n := range oddNumbers() {
				got, e := fringe.Masked(m, h, n)
				zeroBeside(t, "Masked", got, e)
				for _, x := range []api.FringeModel{model(n, n, n, n), model(n, 0, 0, 0), model(0, n, 1, 0), model(-1, 0, n, n)} {
					got, e := fringe.Flattened(m, x, h)
					zeroBeside(t, "Flattened", got, e)
					got, e = fringe.ModelPhases(x, h)
					zeroBeside(t, "ModelPhases", got, e)
				}
			}
		}
	}
}

// P1 of the document, for images and fields.
func TestP1NoPanicOfImages(t *testing.T) {
	for _, a := range oddImages() {
		for _, b := range oddImages() {
			f, e := fringe.Interfere(a, b)
			zeroBeside(t, "Interfere", f, e)
			for _, n := range oddNumbers() {
				q, e := fringe.Coherence(a, b, n)
				zeroBeside(t, "Coherence", q, e)
			}
		}
	}
	for _, f := range oddFields() {
		m, e := fringe.PhasesOf(f)
		zeroBeside(t, "PhasesOf", m, e)
		for _, n := range oddNumbers() {
			got, e := fringe.Filtered(f, n)
			zeroBeside(t, "Filtered", got, e)
			for _, k := range oddNumbers() {
				got, e := fringe.Looked(f, [2]int{n, k})
				zeroBeside(t, "Looked", got, e)
				square, e := fringe.SquareOf(n, k)
				zeroBeside(t, "SquareOf", square, e)
			}
		}
	}
}

// P1 of the document, for texts.
func TestP1NoPanicOfTexts(t *testing.T) {
	whole := "phases 2 3\n5 * -7\n* 1 100000000\n"
	for i := range len(whole) {
		for _, s := range []string{whole[:i], whole[i:], whole[:i] + "\x00" + whole[i:], whole[:i] + "9" + whole[i+1:], whole[:i] + "-" + whole[i:], whole[:i] + "\n" + whole[i:], whole[:i] + "*" + whole[i+1:]} {
			m, n, e := fringe.Parse(s)
			zeroBeside(t, s, m, e)
			if (n > 0) != (e == api.ErrSyntax) || n > strings.Count(s, "\n")+1 {
				t.Errorf("%q: line %d beside %d", s, n, e)
			}
		}
	}
}

// spared returns the items in memory that goes on behind them, and a function that tells whether all of it is as it was.
func spared[T any](items []T, spare T) ([]T, func() bool) {
	memory := append(slices.Clone(items), spare, spare, spare)
	kept := slices.Clone(memory)
	return memory[:len(items)], func() bool { return reflect.DeepEqual(memory, kept) }
}

// R3: nothing is written into an argument, and results share no memory with them, or with further results.
func TestR3ArgumentsStay(t *testing.T) {
	r := numbers{99}
	a, b, f := r.image(8, 9, 2000), r.image(8, 9, 2000), r.field(8, 9, 2000)
	m, q, ramp := r.phases(8, 9, 2000, 5), r.floats(8, 9, 1000), r.phases(8, 9, 20, 0)
	var stay [6]func() bool
	a.Data, stay[0] = spared(a.Data, 7i)
	b.Data, stay[1] = spared(b.Data, 7i)
	f.Data, stay[2] = spared(f.Data, 7i)
	m.Phases, stay[3] = spared(m.Phases, 7)
	ramp.Phases, stay[4] = spared(ramp.Phases, 7)
	q.Data, stay[5] = spared(q.Data, 7)
	x := model(100, 200, 300, 400)
	calls := map[string]func() (any, api.Errno){
		"Interfere":   func() (any, api.Errno) { return fringe.Interfere(a, b) },
		"Looked":      func() (any, api.Errno) { return fringe.Looked(f, [2]int{1, 1}) },
		"Filtered":    func() (any, api.Errno) { return fringe.Filtered(f, 0) },
		"PhasesOf":    func() (any, api.Errno) { return fringe.PhasesOf(f) },
		"Wrapped":     func() (any, api.Errno) { return fringe.Wrapped(m) },
		"Difference":  func() (any, api.Errno) { return fringe.Difference(m, ramp) },
		"Total":       func() (any, api.Errno) { return fringe.Total(m, ramp) },
		"ModelPhases": func() (any, api.Errno) { return fringe.ModelPhases(x, q) },
		"Flattened":   func() (any, api.Errno) { return fringe.Flattened(m, x, q) },
		"Coherence":   func() (any, api.Errno) { return fringe.Coherence(a, b, 2) },
		"Masked":      func() (any, api.Errno) { return fringe.Masked(m, q, -1000) },
		"Residues":    func() (any, api.Errno) { return fringe.Residues(m) },
		"Closure":     func() (any, api.Errno) { return fringe.Closure(m, ramp, m) },
		"Histogram":   func() (any, api.Errno) { return fringe.Histogram(m, 16) },
	}
	for name, call := range calls {
		one, e := call()
		two, f := call()
		if e != api.OK || f != api.OK {
			t.Errorf("%s: errors %d, %d", name, e, f)
		}
		want(t, name+" again", two, f, one, e)
		cleared(one)
		three, f := call()
		want(t, name+" once more", three, f, two, e)
	}
	fringe.CheckMap(m)
	fringe.CheckFloatMap(q)
	fringe.StepAt(m, [2]int{1, 1}, true)
	fringe.TurnsAround(ramp, box(0, 0, 3, 3))
	fringe.CommonStep(m, true)
	fringe.Print(m)
	for i, is := range stay {
		if !is() {
			t.Error("an argument is changed:", i)
		}
	}
}

// cleared overwrites the memory of a result.
func cleared(result any) {
	switch x := result.(type) {
	case api.RadarField:
		clear(x.Data[:cap(x.Data)])
	case api.PhaseMap:
		clear(x.Phases[:cap(x.Phases)])
	case api.FloatMap:
		clear(x.Data[:cap(x.Data)])
	case []api.FringeResidue:
		clear(x[:cap(x)])
	case []int:
		clear(x[:cap(x)])
	}
}

// R4: calls with other arguments between are of no effect.
func TestR4EarlierCalls(t *testing.T) {
	r := numbers{100}
	large, small := r.phases(30, 30, 5000, 9), phases(2, 0, 1024, -1024, -2048)
	for name, f := range mapFunctions() {
		one, e := f(small)
		f(large)
		f(api.PhaseMap{})
		two, g := f(small)
		want(t, name, two, g, one, e)
	}
	for name, f := range mapsFunctions() {
		one, e := f(phases(1, 5, 6), phases(1, 7, void))
		f(large, large)
		f(phases(1, void, void), phases(1, 0, 0))
		two, g := f(phases(1, 5, 6), phases(1, 7, void))
		want(t, name, two, g, one, e)
	}
}

func hasMinusZero(numbers ...complex128) bool {
	isMinusZero := func(x float64) bool { return x == 0 && math.Signbit(x) }
	return slices.ContainsFunc(numbers, func(z complex128) bool { return isMinusZero(real(z)) || isMinusZero(imag(z)) })
}

// No result has -0, whatever signs the zeros of the arguments have.
func TestNoMinusZero(t *testing.T) {
	zero := float32(0)
	parts := []complex64{complex(zero, zero), complex(zero, minus), complex(minus, zero), complex(minus, minus), 1, -1, 1i, -1i, complex(-1, minus), complex(minus, -1), 1 + 1i, 1 - 1i, -1 + 1i, -1 - 1i}
	var a, b api.RadarImage
	var f api.RadarField
	for _, x := range parts {
		for _, y := range parts {
			a.Data, b.Data, f.Data = append(a.Data, x), append(b.Data, y), append(f.Data, complex128(x))
		}
	}
	a.Lines, a.Samples, b.Lines, b.Samples, f.Lines, f.Samples = 14, 14, 14, 14, 14, 14
	products, e := fringe.Interfere(a, b)
	if e != api.OK || hasMinusZero(products.Data...) {
		t.Error("Interfere:", products, e)
	}
	want(t, "Interfere", products, e, interferogram(a, b), api.OK)
	for by := range 14 {
		looked, e := fringe.Looked(f, [2]int{by + 1, 14 - by})
		if e != api.OK || hasMinusZero(looked.Data...) {
			t.Error("Looked:", looked, e)
		}
	}
	looked, e := fringe.Looked(f, [2]int{1, 1})
	if e != api.OK || hasMinusZero(looked.Data...) {
		t.Error("Looked by 1 and 1:", looked, e)
	}
	for half := range 5 {
		filtered, e := fringe.Filtered(f, half)
		if e != api.OK || hasMinusZero(filtered.Data...) {
			t.Error("Filtered:", filtered, e)
		}
		q, e := fringe.Coherence(a, b, half)
		if e != api.OK || slices.ContainsFunc(q.Data, func(x float32) bool { return hasMinusZero(complex(float64(x), 0)) }) {
			t.Error("Coherence:", q, e)
		}
	}
}

// -0 counts as 0 in arguments.
func TestMinusZeroIsZero(t *testing.T) {
	m, e := fringe.PhasesOf(field(1, complex128(complex(minus, minus)), complex(-3, float64(minus)), complex(float64(minus), -3)))
	want(t, "PhasesOf", m, e, phases(1, void, -2048, -1024), api.OK)
	m, e = fringe.ModelPhases(model(1, 0, 0, -1000000), floats(1, minus))
	want(t, "ModelPhases", m, e, phases(1, 0), api.OK)
	m, e = fringe.Masked(phases(1, 5, 5), floats(1, minus, 0), 0)
	want(t, "Masked", m, e, phases(1, 5, 5), api.OK)
	q, e := fringe.Coherence(row(minusZero64, 1), row(1, minusZero64), 0)
	want(t, "Coherence", q, e, floats(1, 0, 0), api.OK)
}
