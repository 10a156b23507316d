package fringe_test

import (
	"math"
	"testing"

	"swath/api"
	"swath/fringe"
)

func TestP4_1CheckMap(t *testing.T) {
	full := make([]int, 4096)
	full[4095] = -100000001
	for what, x := range map[string]struct {
		m api.PhaseMap
		n int
		e api.Errno
	}{
		"one pixel":                {phases(1, 0), 0, api.OK},
		"a void pixel":             {phases(1, void), 0, api.OK},
		"the largest":              {api.PhaseMap{Rows: 64, Columns: 64, Phases: make([]int, 4096)}, 0, api.OK},
		"one row":                  {api.PhaseMap{Rows: 1, Columns: 64, Phases: make([]int, 64)}, 0, api.OK},
		"one column":               {api.PhaseMap{Rows: 64, Columns: 1, Phases: make([]int, 64)}, 0, api.OK},
		"the greatest phases":      {phases(1, 100000000, -100000000, void), 0, api.OK},
		"nothing":                  {api.PhaseMap{}, 0, api.ErrRange},
		"no rows":                  {api.PhaseMap{Rows: 0, Columns: 1}, 0, api.ErrRange},
		"no columns":               {api.PhaseMap{Rows: 1, Columns: 0}, 0, api.ErrRange},
		"both below 0":             {api.PhaseMap{Rows: -1, Columns: -1, Phases: make([]int, 1)}, 0, api.ErrRange},
		"65 rows":                  {api.PhaseMap{Rows: 65, Columns: 1, Phases: make([]int, 65)}, 0, api.ErrRange},
		"65 columns":               {api.PhaseMap{Rows: 1, Columns: 65, Phases: make([]int, 65)}, 0, api.ErrRange},
		"a product of 0":           {api.PhaseMap{Rows: 1 << 32, Columns: 1 << 32}, 0, api.ErrRange},
		"the least int":            {api.PhaseMap{Rows: math.MinInt, Columns: 2}, 0, api.ErrRange},
		"65 rows and no phases":    {api.PhaseMap{Rows: 65, Columns: 1}, 0, api.ErrRange},
		"a pixel missing":          {api.PhaseMap{Rows: 2, Columns: 2, Phases: []int{0, -100000001, 0}}, 0, api.ErrShape},
		"a pixel more":             {api.PhaseMap{Rows: 2, Columns: 1, Phases: []int{0, 100000001, 0}}, 0, api.ErrShape},
		"no pixels":                {api.PhaseMap{Rows: 1, Columns: 1}, 0, api.ErrShape},
		"a great phase":            {phases(1, 0, 100000001), 1, api.ErrRange},
		"a great phase below 0":    {phases(2, 0, 0, -100000001, 0), 2, api.ErrRange},
		"less than void":           {phases(1, void-1), 0, api.ErrRange},
		"more than void":           {phases(1, void, void+1), 1, api.ErrRange},
		"the opposite of void":     {phases(1, -void), 0, api.ErrRange},
		"the least phase":          {phases(1, 5, math.MinInt), 1, api.ErrRange},
		"the greatest phase":       {phases(1, 5, void, math.MaxInt), 2, api.ErrRange},
		"the first of two":         {phases(1, 5, -100000001, 100000001), 1, api.ErrRange},
		"the last one of them all": {api.PhaseMap{Rows: 64, Columns: 64, Phases: full}, 4095, api.ErrRange},
	} {
		n, e := fringe.CheckMap(x.m)
		want(t, what, n, e, x.n, x.e)
	}
}

func TestP4_1CheckFloatMap(t *testing.T) {
	full := make([]float32, 4096)
	full[4095] = -100001
	for what, x := range map[string]struct {
		h api.FloatMap
		n int
		e api.Errno
	}{
		"one number":                {floats(1, 0), 0, api.OK},
		"minus zero":                {floats(1, minus), 0, api.OK},
		"the largest":               {api.FloatMap{Rows: 64, Columns: 64, Data: make([]float32, 4096)}, 0, api.OK},
		"the greatest numbers":      {floats(1, 100000, -100000), 0, api.OK},
		"nothing":                   {api.FloatMap{}, 0, api.ErrRange},
		"no rows":                   {api.FloatMap{Rows: 0, Columns: 1}, 0, api.ErrRange},
		"no columns":                {api.FloatMap{Rows: 1, Columns: 0}, 0, api.ErrRange},
		"both below 0":              {api.FloatMap{Rows: -1, Columns: -1, Data: make([]float32, 1)}, 0, api.ErrRange},
		"65 rows":                   {api.FloatMap{Rows: 65, Columns: 1, Data: make([]float32, 65)}, 0, api.ErrRange},
		"65 columns":                {api.FloatMap{Rows: 1, Columns: 65, Data: make([]float32, 65)}, 0, api.ErrRange},
		"a product of 0":            {api.FloatMap{Rows: 1 << 32, Columns: 1 << 32}, 0, api.ErrRange},
		"65 columns and no numbers": {api.FloatMap{Rows: 1, Columns: 65}, 0, api.ErrRange},
		"a number missing":          {api.FloatMap{Rows: 2, Columns: 2, Data: []float32{0.5, 0, 0}}, 0, api.ErrShape},
		"a number more":             {api.FloatMap{Rows: 1, Columns: 1, Data: []float32{0, 0.5}}, 0, api.ErrShape},
		"a half":                    {floats(1, 1, 2, 0.5), 2, api.ErrWhole},
		"a half below 0":            {floats(2, 1, -99999.5), 1, api.ErrWhole},
		"a great one and a half":    {floats(1, 0, 100000.5), 1, api.ErrWhole},
		"NaN":                       {floats(1, 0, notANumber), 1, api.ErrWhole},
		"infinity":                  {floats(1, inf), 0, api.ErrWhole},
		"infinity below 0":          {floats(1, 0, 0, -inf), 2, api.ErrWhole},
		"a great number":            {floats(1, 0, 100001), 1, api.ErrRange},
		"a great number below 0":    {floats(2, 0, 0, -100001, 0), 2, api.ErrRange},
		"whole and very great":      {floats(1, 0, -1e30), 1, api.ErrRange},
		"great before half":         {floats(1, 0, 100001, 0.5), 1, api.ErrRange},
		"half before great":         {floats(1, 0.5, 100001), 0, api.ErrWhole},
		"the last one of them all":  {api.FloatMap{Rows: 64, Columns: 64, Data: full}, 4095, api.ErrRange},
	} {
		n, e := fringe.CheckFloatMap(x.h)
		want(t, what, n, e, x.n, x.e)
	}
}

// The errors of a map come first in each function of one map.
func TestP4_1ErrorsOfMaps(t *testing.T) {
	for name, f := range mapFunctions() {
		for what, x := range wrongMaps() {
			got, e := f(x.x)
			if e != x.e {
				t.Errorf("%s of %s: error %d, want %d", name, what, e, x.e)
			}
			zeroBeside(t, name, got, e)
		}
	}
}

// The errors of several maps come in the order of the maps, and ahead of what they are together.
func TestP4_1ErrorsOfSeveralMaps(t *testing.T) {
	for name, f := range mapsFunctions() {
		for what, x := range wrongMaps() {
			got, e := f(x.x, otherMap(x.e))
			if e != x.e {
				t.Errorf("%s of %s and another wrong one: error %d, want %d", name, what, e, x.e)
			}
			zeroBeside(t, name, got, e)
			got, e = f(phases(1, 1, 2), x.x)
			if e != x.e {
				t.Errorf("%s of a map and %s: error %d, want %d", name, what, e, x.e)
			}
			zeroBeside(t, name, got, e)
		}
		for what, other := range map[string]api.PhaseMap{"a row more": phases(2, 1, 2, 3, 4), "a column more": phases(1, 1, 2, 3), "as many pixels": phases(2, 1, 2), "a column less": phases(1, 1)} {
			got, e := f(phases(1, 1, 2), other)
			if e != api.ErrClash {
				t.Errorf("%s of %s: error %d", name, what, e)
			}
			zeroBeside(t, name, got, e)
		}
	}
	_, e := fringe.Closure(phases(1, 1), phases(1, 1, 2), phases(1, void+1))
	want(t, "Closure of a third wrong one", nil, e, nil, api.ErrRange)
	_, e = fringe.Closure(phases(1, 1), phases(1, 1, 2), phases(1, 1, 2))
	want(t, "Closure of two that clash with the first one", nil, e, nil, api.ErrClash)
}
