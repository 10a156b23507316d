package fringe_test

import (
	"math"
	"testing"

	"swath/api"
	"swath/fringe"
)

// commonStep counts, for each step from the least one on, how often it occurs.
func commonStep(m api.PhaseMap, down bool) (int, api.Errno) {
	var all [4096]int
	found := false
	for row := range m.Rows {
		for column := range m.Columns {
			if down && row == m.Rows-1 || !down && column == m.Columns-1 {
				continue
			}
			if n, is := step(m, row, column, down); is {
				all[n+2048]++
				found = true
			}
		}
	}
	best := 0
	for i, count := range all {
		if count > all[best] {
			best = i
		}
	}
	if !found {
		return 0, api.ErrNone
	}
	return best - 2048, api.OK
}

func TestP4_6CommonStepExamples(t *testing.T) {
	for what, x := range map[string]struct {
		m     api.PhaseMap
		down  bool
		right int
		e     api.Errno
	}{
		"example 6":           {phases(1, 0, 10, 20, 5), false, 10, api.OK},
		"example 6, a column": {phases(4, 0, 10, 20, 5), true, 10, api.OK},
		"the least of two":    {phases(1, 0, 10, 5, 15, 10), false, -5, api.OK},
		"the least of all":    {phases(1, 0, 3, 5, 9), false, 2, api.OK},
		"the first is least":  {phases(1, 0, 1, 3, 6), false, 1, api.OK},
		"the size is none":    {phases(1, 0, 1, 2, 0, -2), false, -2, api.OK},
		"all steps are one":   {phases(2, 0, 7, 14, 100, 107, 114), false, 7, api.OK},
		"the same, down":      {phases(2, 0, 7, 14, 100, 107, 114), true, 100, api.OK},
		"wrapped":             {phases(1, 0, 2000, 4000, 1904), false, 2000, api.OK},
		"half a turn":         {phases(1, 0, 2048, 0, 2047), false, -2048, api.OK},
		"not from row to row": {phases(3, 0, 5, 5, 11, 11, 18), false, 5, api.OK},
		"not from the bottom": {phases(2, 0, 3, 1, 9), true, 1, api.OK},
		"void between":        {phases(1, 0, 1, 2, void, 9, 18), false, 1, api.OK},
		"void at each second": {phases(1, 0, void, 2, void, 9), false, 0, api.ErrNone},
		"void, down":          {phases(3, 0, 5, void, 7, 8, 9), true, 2, api.OK},
		"void in each column": {phases(3, 0, 5, void, void, 8, 9), true, 0, api.ErrNone},
		"one row":             {phases(1, 0, 1, 2), true, 0, api.ErrNone},
		"one column":          {phases(3, 0, 1, 2), false, 0, api.ErrNone},
		"one pixel":           {phases(1, 0), false, 0, api.ErrNone},
		"one pixel, down":     {phases(1, 0), true, 0, api.ErrNone},
		"steps of 0":          {phases(1, 4, 4, 4, 5), false, 0, api.OK},
	} {
		n, e := fringe.CommonStep(x.m, x.down)
		want(t, what, n, e, x.right, x.e)
	}
}

func TestP4_6CommonStep(t *testing.T) {
	r := numbers{81}
	for _, size := range sizes() {
		for _, most := range []int{1, 3, 20, 5000, api.MaxPhase} {
			for _, holes := range []int{0, 3} {
				m := r.phases(size[0], size[1], most, holes)
				for _, down := range []bool{false, true} {
					right, e := commonStep(m, down)
					for range 3 {
						n, f := fringe.CommonStep(m, down)
						want(t, "CommonStep", n, f, right, e)
					}
				}
			}
		}
	}
}

// histogram counts the phases that are not less than the first one of a bin and less than that of the next one.
func histogram(m api.PhaseMap, bins int) []int {
	out := make([]int, bins)
	for i := range out {
		for _, n := range m.Phases {
			if n != void && wrapped(n) >= -2048+i*4096/bins && wrapped(n) < -2048+(i+1)*4096/bins {
				out[i]++
			}
		}
	}
	return out
}

func TestP4_6Histogram(t *testing.T) {
	l, e := fringe.Histogram(phases(1, 0, -2048, 2047), 4)
	want(t, "example 6", l, e, []int{1, 0, 1, 1}, api.OK)
	l, e = fringe.Histogram(phases(2, -1, 0, 2048, 4095, void, -2049), 2)
	want(t, "two bins", l, e, []int{3, 2}, api.OK)
	l, e = fringe.Histogram(phases(1, -1, 0, void, 100000000), 1)
	want(t, "one bin", l, e, []int{3}, api.OK)
	l, e = fringe.Histogram(phases(1, void), 8)
	want(t, "void alone", l, e, make([]int, 8), api.OK)
	each := make([]int, 4096)
	each[0], each[2047], each[2048], each[4095] = 1, 2, 1, 1
	l, e = fringe.Histogram(phases(1, -2048, -1, 0, 4095, 2047), 4096)
	want(t, "as many bins as parts", l, e, each, api.OK)
	r := numbers{82}
	for _, size := range sizes()[:9] {
		for bins := 1; bins <= 4096; bins *= 2 {
			m := r.phases(size[0], size[1], 10000, 6)
			l, e := fringe.Histogram(m, bins)
			want(t, "Histogram", l, e, histogram(m, bins), api.OK)
		}
	}
	l, e = fringe.Histogram(r.phases(64, 64, api.MaxPhase, 0), 1)
	want(t, "all of the largest", l, e, []int{4096}, api.OK)
}

func TestP4_6HistogramErrors(t *testing.T) {
	for bins, right := range map[int]api.Errno{0: api.ErrRange, -1: api.ErrRange, -4: api.ErrRange, 4097: api.ErrRange, 8192: api.ErrRange, math.MinInt: api.ErrRange, math.MaxInt: api.ErrRange, 3: api.ErrShape, 5: api.ErrShape, 6: api.ErrShape, 4095: api.ErrShape, 3072: api.ErrShape, 100: api.ErrShape} {
		l, e := fringe.Histogram(phases(1, 0), bins)
		want(t, "Histogram", l, e, []int(nil), right)
	}
	for what, x := range wrongMaps() {
		for _, bins := range []int{0, 3, 4} {
			l, e := fringe.Histogram(x.x, bins)
			want(t, what, l, e, []int(nil), x.e)
		}
	}
}
