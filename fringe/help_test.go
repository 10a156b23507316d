package fringe_test

import (
	"math"
	"reflect"
	"testing"

	"swath/api"
	"swath/fringe"
)

const void = api.PhaseVoid

var (
	notANumber  = float32(math.NaN())
	inf         = float32(math.Inf(1))
	minus       = float32(math.Copysign(0, -1))
	minusZero64 = complex(minus, minus)
)

// want compares a result and an error with those that are right. A nil slice and an empty one are the same.
func want(t *testing.T, what string, got any, e api.Errno, right any, rightError api.Errno) {
	t.Helper()
	if e != rightError {
		t.Errorf("%s: error %d, want %d", what, e, rightError)
	}
	if !reflect.DeepEqual(got, right) && !(isEmpty(got) && isEmpty(right)) {
		t.Errorf("%s: %v, want %v", what, got, right)
	}
}

func isEmpty(x any) bool {
	v := reflect.ValueOf(x)
	return v.Kind() == reflect.Slice && v.Len() == 0
}

// zeroBeside checks that a result beside an error is zero.
func zeroBeside(t *testing.T, what string, result any, e api.Errno) {
	t.Helper()
	if e != api.OK && !reflect.ValueOf(result).IsZero() && !isEmpty(result) {
		t.Errorf("%s: %v beside the error %d", what, result, e)
	}
}

// image returns an image of so many lines.
func image(lines int, samples ...complex64) api.RadarImage {
	return api.RadarImage{Lines: lines, Samples: len(samples) / lines, Data: samples}
}

func row(samples ...complex64) api.RadarImage { return image(1, samples...) }

// field returns a field of so many lines.
func field(lines int, samples ...complex128) api.RadarField {
	return api.RadarField{Lines: lines, Samples: len(samples) / lines, Data: samples}
}

// phases returns a map of so many rows.
func phases(rows int, of ...int) api.PhaseMap {
	return api.PhaseMap{Rows: rows, Columns: len(of) / rows, Phases: of}
}

// floats returns a float map of so many rows.
func floats(rows int, of ...float32) api.FloatMap {
	return api.FloatMap{Rows: rows, Columns: len(of) / rows, Data: of}
}

func model(base, perRow, perColumn, perHeight int) api.FringeModel {
	return api.FringeModel{Base: base, PerRow: perRow, PerColumn: perColumn, PerHeight: perHeight}
}

func box(row, column, high, wide int) api.FringeBox {
	return api.FringeBox{Row: row, Column: column, High: high, Wide: wide}
}

func residue(row, column, turns int) api.FringeResidue {
	return api.FringeResidue{Row: row, Column: column, Turns: turns}
}

// wrapped takes whole turns away.
func wrapped(phase int) int {
	for phase > 2047 {
		phase -= (phase + 2048) / 4096 * 4096
	}
	for phase < -2048 {
		phase += (2047 - phase) / 4096 * 4096
	}
	return phase
}

// numbers yields the same numbers in each run, below a bound.
type numbers struct{ state uint64 }

func (r *numbers) below(n int) int {
	r.state = r.state*6364136223846793005 + 1442695040888963407
	return int(r.state>>33) % n
}

// within returns a number from -most to most.
func (r *numbers) within(most int) int { return r.below(2*most+1) - most }

func (r *numbers) image(lines, samples, most int) api.RadarImage {
	im := api.RadarImage{Lines: lines, Samples: samples}
	for range lines * samples {
		im.Data = append(im.Data, complex(float32(r.within(most)), float32(r.within(most))))
	}
	return im
}

func (r *numbers) field(lines, samples, most int) api.RadarField {
	f := api.RadarField{Lines: lines, Samples: samples}
	for range lines * samples {
		f.Data = append(f.Data, complex(float64(r.within(most)), float64(r.within(most))))
	}
	return f
}

// phases returns a map in which one pixel of so many is void, none if holes is 0.
func (r *numbers) phases(rows, columns, most, holes int) api.PhaseMap {
	m := api.PhaseMap{Rows: rows, Columns: columns}
	for range rows * columns {
		n := r.within(most)
		if holes > 0 && r.below(holes) == 0 {
			n = void
		}
		m.Phases = append(m.Phases, n)
	}
	return m
}

func (r *numbers) floats(rows, columns, most int) api.FloatMap {
	h := api.FloatMap{Rows: rows, Columns: columns}
	for range rows * columns {
		h.Data = append(h.Data, float32(r.within(most)))
	}
	return h
}

// sizes returns sizes of maps, from the least to the greatest one.
func sizes() [][2]int {
	return [][2]int{{1, 1}, {1, 2}, {2, 1}, {2, 2}, {1, 64}, {64, 1}, {3, 5}, {7, 4}, {13, 17}, {64, 64}}
}

// wrong is an argument with its error.
type wrong[T any] struct {
	x T
	e api.Errno
}

func wrongImages() map[string]wrong[api.RadarImage] {
	return map[string]wrong[api.RadarImage]{
		"no image":         {api.RadarImage{}, api.ErrRange},
		"no lines":         {api.RadarImage{Lines: 0, Samples: 1}, api.ErrRange},
		"too many lines":   {api.RadarImage{Lines: 65, Samples: 1, Data: make([]complex64, 65)}, api.ErrRange},
		"too many samples": {api.RadarImage{Lines: 1, Samples: 65, Data: make([]complex64, 65)}, api.ErrRange},
		"no data":          {api.RadarImage{Lines: 1, Samples: 2}, api.ErrShape},
		"half a sample":    {row(1, 0.5), api.ErrWhole},
		"no number":        {row(1, complex(0, notANumber)), api.ErrWhole},
		"a great sample":   {row(1, -2048i), api.ErrRange},
	}
}

func wrongFields() map[string]wrong[api.RadarField] {
	return map[string]wrong[api.RadarField]{
		"no field":         {api.RadarField{}, api.ErrRange},
		"too many lines":   {api.RadarField{Lines: 65, Samples: 1, Data: make([]complex128, 65)}, api.ErrRange},
		"too many samples": {api.RadarField{Lines: 1, Samples: 65, Data: make([]complex128, 65)}, api.ErrRange},
		"no data":          {api.RadarField{Lines: 1, Samples: 2}, api.ErrShape},
		"half a sample":    {field(1, 1, 0.5), api.ErrWhole},
		"no number":        {field(1, 1, complex(math.NaN(), 0)), api.ErrWhole},
		"a great sample":   {field(1, 1, 1000000001i), api.ErrRange},
	}
}

func wrongMaps() map[string]wrong[api.PhaseMap] {
	return map[string]wrong[api.PhaseMap]{
		"no map":             {api.PhaseMap{}, api.ErrRange},
		"too many rows":      {api.PhaseMap{Rows: 65, Columns: 1, Phases: make([]int, 65)}, api.ErrRange},
		"too many columns":   {api.PhaseMap{Rows: 1, Columns: 65, Phases: make([]int, 65)}, api.ErrRange},
		"columns below 0":    {api.PhaseMap{Rows: -1, Columns: -2, Phases: make([]int, 2)}, api.ErrRange},
		"a pixel missing":    {api.PhaseMap{Rows: 1, Columns: 2, Phases: make([]int, 1)}, api.ErrShape},
		"a pixel more":       {api.PhaseMap{Rows: 1, Columns: 2, Phases: make([]int, 3)}, api.ErrShape},
		"a great phase":      {phases(1, 1, 100000001), api.ErrRange},
		"a phase far off 0":  {phases(1, 1, -100000001), api.ErrRange},
		"nearly a void one":  {phases(1, 1, void-1), api.ErrRange},
		"less than void":     {phases(1, 1, -void), api.ErrRange},
		"the least of all":   {phases(1, 1, math.MinInt), api.ErrRange},
		"wrong at the first": {phases(1, math.MaxInt, 0), api.ErrRange},
	}
}

func wrongFloatMaps() map[string]wrong[api.FloatMap] {
	return map[string]wrong[api.FloatMap]{
		"no map":           {api.FloatMap{}, api.ErrRange},
		"too many rows":    {api.FloatMap{Rows: 65, Columns: 1, Data: make([]float32, 65)}, api.ErrRange},
		"too many columns": {api.FloatMap{Rows: 1, Columns: 65, Data: make([]float32, 65)}, api.ErrRange},
		"a number missing": {api.FloatMap{Rows: 1, Columns: 2, Data: make([]float32, 1)}, api.ErrShape},
		"a number more":    {api.FloatMap{Rows: 1, Columns: 2, Data: make([]float32, 3)}, api.ErrShape},
		"half a number":    {floats(1, 1, 0.5), api.ErrWhole},
		"no number":        {floats(1, 1, notANumber), api.ErrWhole},
		"an infinity":      {floats(1, 1, -inf), api.ErrWhole},
		"a great number":   {floats(1, 1, 100001), api.ErrRange},
		"far below 0":      {floats(1, 1, -100001), api.ErrRange},
	}
}

// otherMap returns a wrong map with another error.
func otherMap(e api.Errno) api.PhaseMap {
	if e == api.ErrShape {
		return phases(1, 1, 2, -100000001)
	}
	return api.PhaseMap{Rows: 1, Columns: 3}
}

// results are what a function returns, but for its error, if it returns one thing.
type (
	ofMap  = func(m api.PhaseMap) (any, api.Errno)
	ofMaps = func(a, b api.PhaseMap) (any, api.Errno)
)

// mapFunctions calls all functions of one map with arguments that are right for 1, 2 and more pixels.
func mapFunctions() map[string]ofMap {
	return map[string]ofMap{
		"Wrapped":          func(m api.PhaseMap) (any, api.Errno) { return fringe.Wrapped(m) },
		"StepAt":           func(m api.PhaseMap) (any, api.Errno) { return fringe.StepAt(m, [2]int{0, 0}, false) },
		"StepAt, down":     func(m api.PhaseMap) (any, api.Errno) { return fringe.StepAt(m, [2]int{0, 0}, true) },
		"Residues":         func(m api.PhaseMap) (any, api.Errno) { return fringe.Residues(m) },
		"TurnsAround":      func(m api.PhaseMap) (any, api.Errno) { return fringe.TurnsAround(m, box(0, 0, 1, 1)) },
		"CommonStep":       func(m api.PhaseMap) (any, api.Errno) { return fringe.CommonStep(m, false) },
		"CommonStep, down": func(m api.PhaseMap) (any, api.Errno) { return fringe.CommonStep(m, true) },
		"Histogram":        func(m api.PhaseMap) (any, api.Errno) { return fringe.Histogram(m, 4) },
		"Print":            func(m api.PhaseMap) (any, api.Errno) { return fringe.Print(m) },
	}
}

// mapsFunctions calls all functions of several maps, with two of them.
func mapsFunctions() map[string]ofMaps {
	return map[string]ofMaps{
		"Difference":           func(a, b api.PhaseMap) (any, api.Errno) { return fringe.Difference(a, b) },
		"Total":                func(a, b api.PhaseMap) (any, api.Errno) { return fringe.Total(a, b) },
		"Closure, first ones":  func(a, b api.PhaseMap) (any, api.Errno) { return fringe.Closure(a, b, a) },
		"Closure, outer ones":  func(a, b api.PhaseMap) (any, api.Errno) { return fringe.Closure(a, a, b) },
		"Closure, second ones": func(a, b api.PhaseMap) (any, api.Errno) { return fringe.Closure(phases(1, 1, 2), a, b) },
	}
}
