package match_test

import (
	"slices"
	"testing"

	"swath/api"
	"swath/match"
)

// rightWindows asks each line and sample whether a window begins there.
func rightWindows(im api.RadarImage, t api.MatchTask) []api.MatchWindow {
	var out []api.MatchWindow
	for line := range im.Lines {
		for sample := range im.Samples {
			inside := line+t.Lines <= im.Lines && sample+t.Samples <= im.Samples
			if inside && line%t.Step == 0 && sample%t.Step == 0 {
				out = append(out, window(line, sample, t.Lines, t.Samples))
			}
		}
	}
	return out
}

// rightPoints finds the points of windows from the definition.
func rightPoints(p api.MatchPair, t api.MatchTask) []api.MatchPoint {
	var out []api.MatchPoint
	for _, w := range rightWindows(p.First, t) {
		best, ok := rightBest(p, w, t.Reach)
		if ok && best.score.Cmp(part(t.Least, 1000)) >= 0 {
			out = append(out, api.MatchPoint{
				Line:   w.Line + down(part(w.Lines, 2)),
				Sample: w.Sample + down(part(w.Samples, 2)),
				By:     best.by,
				Score:  down(times(best.score, whole(1000))),
			})
		}
	}
	return out
}

// same compares lists, of which a nil one and an empty one are the same.
func same[T comparable](t *testing.T, what string, got []T, e api.Errno, right []T, rightError api.Errno) {
	t.Helper()
	if e != rightError || !slices.Equal(got, right) {
		t.Errorf("%s: %v and the error %d, want %v and %d", what, got, e, right, rightError)
	}
}

func TestP3_2Windows(t *testing.T) {
	im := empty(5, 7)
	l, e := match.Windows(pair(im, row(1)), api.MatchTask{Lines: 2, Samples: 3, Step: 2})
	same(t, "Windows", l, e, []api.MatchWindow{window(0, 0, 2, 3), window(0, 2, 2, 3), window(0, 4, 2, 3), window(2, 0, 2, 3), window(2, 2, 2, 3), window(2, 4, 2, 3)}, api.OK)
	l, e = match.Windows(pair(im, row(1)), task(5, 64, 0))
	same(t, "a great step", l, e, []api.MatchWindow{window(0, 0, 5, 5)}, api.OK)
	l, e = match.Windows(pair(im, row(1)), task(6, 1, 0))
	same(t, "windows that are too high", l, e, nil, api.OK)
	l, e = match.Windows(pair(empty(7, 5), row(1)), task(6, 1, 0))
	same(t, "windows that are too wide", l, e, nil, api.OK)
	r := numbers{6}
	for range 300 {
		p := pair(empty(1+r.below(64), 1+r.below(64)), row(1))
		x := api.MatchTask{Lines: 1 + r.below(8), Samples: 1 + r.below(8), Step: 1 + r.below(30)}
		l, e := match.Windows(p, x)
		right := rightWindows(p.First, x)
		if len(right) > 30 {
			same(t, "too many windows", l, e, nil, api.ErrLarge)
		} else {
			same(t, "Windows", l, e, right, api.OK)
		}
	}
}

func TestP3_2ManyWindows(t *testing.T) {
	for _, x := range []struct {
		lines, samples, count int
		e                     api.Errno
	}{{5, 6, 30, api.OK}, {30, 1, 30, api.OK}, {31, 1, 0, api.ErrLarge}, {1, 31, 0, api.ErrLarge}, {4, 8, 0, api.ErrLarge}, {64, 64, 0, api.ErrLarge}} {
		p := pair(empty(x.lines, x.samples), row(1))
		windows, e := match.Windows(p, task(1, 1, 0))
		want(t, "how many windows", len(windows), e, x.count, x.e)
		points, e := match.Offsets(p, task(1, 1, 0))
		same(t, "no points", points, e, nil, x.e)
	}
}

func TestP3_2TaskErrors(t *testing.T) {
	for what, x := range wrongPairs() {
		for _, y := range []api.MatchTask{task(1, 1, 0), {}} {
			windows, e := match.Windows(x.x, y)
			same(t, "Windows: "+what, windows, e, nil, x.e)
			points, e := match.Offsets(x.x, y)
			same(t, "Offsets: "+what, points, e, nil, x.e)
		}
	}
	for _, x := range wrongTasks() {
		windows, e := match.Windows(pair(empty(64, 64), row(1)), x)
		same(t, "Windows of a wrong task", windows, e, nil, api.ErrRange)
		points, e := match.Offsets(pair(empty(64, 64), row(1)), x)
		same(t, "Offsets of a wrong task", points, e, nil, api.ErrRange)
	}
}

func TestP3_2Offsets(t *testing.T) {
	p := pair(row(1, 2, 3, 4), row(0, 1, 2, 3))
	x := api.MatchTask{Lines: 1, Samples: 2, Step: 1, Reach: 1}
	l, e := match.Offsets(p, x)
	same(t, "Offsets", l, e, []api.MatchPoint{point(0, 1, 0, 1), point(0, 2, 0, 1), {Line: 0, Sample: 3, Score: 996}}, api.OK)
	x.Least = 996
	l, e = match.Offsets(p, x)
	want(t, "as good as the least", len(l), e, 3, api.OK)
	x.Least = 997
	l, e = match.Offsets(p, x)
	same(t, "worse than the least", l, e, []api.MatchPoint{point(0, 1, 0, 1), point(0, 2, 0, 1)}, api.OK)
	x = task(1, 1, 0)
	l, e = match.Offsets(pair(row(1, 0, 1, 1), row(1, 1, 0)), x)
	same(t, "windows without a score have no point", l, e, []api.MatchPoint{point(0, 0, 0, 0)}, api.OK)
	x = api.MatchTask{Lines: 1, Samples: 2, Step: 2}
	l, e = match.Offsets(pair(row(1, 0), row(0, 1)), x)
	same(t, "a score of 0", l, e, []api.MatchPoint{{Sample: 1}}, api.OK)
	x.Least = 1
	l, e = match.Offsets(pair(row(1, 0), row(0, 1)), x)
	same(t, "a score of 0 is less than one thousandth", l, e, nil, api.OK)
}

func TestP3_2OffsetsSums(t *testing.T) {
	r := numbers{7}
	for _, p := range pairs() {
		for range 4 {
			x := api.MatchTask{Lines: 1 + r.below(8), Samples: 1 + r.below(8), Step: 2 + r.below(5), Reach: r.below(5), Least: r.below(1001)}
			right := rightPoints(p, x)
			if len(rightWindows(p.First, x)) > 30 {
				continue
			}
			l, e := match.Offsets(p, x)
			same(t, "Offsets", l, e, right, api.OK)
			if n, e := match.CheckPoints(l); e != api.OK {
				t.Error("Offsets: a wrong point:", l[n], e)
			}
			for _, y := range right {
				x.Least = y.Score
				l, e := match.Offsets(p, x)
				same(t, "Offsets as good as one of them", l, e, rightPoints(p, x), api.OK)
			}
		}
	}
}

func TestP3_2Median(t *testing.T) {
	withOffsets := func(by ...[2]int) []api.MatchPoint {
		var l []api.MatchPoint
		for _, x := range by {
			l = append(l, point(1, 2, x[0], x[1]))
		}
		return l
	}
	for _, x := range []struct {
		l     []api.MatchPoint
		right [2]int
	}{
		{withOffsets([2]int{-3, 5}), [2]int{-3, 5}},
		{withOffsets([2]int{4, 1}, [2]int{3, 2}, [2]int{2, 3}, [2]int{1, 4}), [2]int{2, 2}},
		{withOffsets([2]int{0, 1}, [2]int{0, 2}, [2]int{1, 1}, [2]int{1, 3}), [2]int{0, 1}},
		{withOffsets([2]int{8, -8}, [2]int{-8, 8}, [2]int{0, 1}), [2]int{0, 1}},
		{withOffsets([2]int{8, 8}, [2]int{-8, -8}), [2]int{-8, -8}},
		{examplePoints(), [2]int{0, 1}},
	} {
		median, e := match.Median(x.l)
		want(t, "Median", median, e, x.right, api.OK)
	}
	median, e := match.Median(nil)
	want(t, "Median of nothing", median, e, [2]int{}, api.ErrShape)
	for what, x := range wrongPoints() {
		median, e := match.Median(x.x)
		want(t, "Median: "+what, median, e, [2]int{}, x.e)
	}
}

// rightMedian is the number with fewer than half of the others below it, and at least half not above it.
func rightMedian(l []api.MatchPoint, of func(api.MatchPoint) int) int {
	for n := -api.MaxMatchOffset; ; n++ {
		upTo := 0
		for _, x := range l {
			if of(x) <= n {
				upTo++
			}
		}
		if 2*upTo >= len(l) {
			return n
		}
	}
}

func TestP3_2MedianAndKept(t *testing.T) {
	r := numbers{8}
	for i := range 200 {
		l := r.points(1+i%30, 64)
		right := [2]int{
			rightMedian(l, func(x api.MatchPoint) int { return x.By[0] }),
			rightMedian(l, func(x api.MatchPoint) int { return x.By[1] }),
		}
		median, e := match.Median(l)
		want(t, "Median", median, e, right, api.OK)
		for tolerance := range 9 {
			var fit []int
			for k, x := range l {
				if max(x.By[0]-right[0], right[0]-x.By[0], x.By[1]-right[1], right[1]-x.By[1]) <= tolerance {
					fit = append(fit, k)
				}
			}
			kept, e := match.Kept(l, tolerance)
			same(t, "Kept", kept, e, fit, api.OK)
		}
	}
}

func TestP3_2Kept(t *testing.T) {
	l := append(examplePoints(), point(10, 10, 1, 3))
	kept, e := match.Kept(l, 1)
	same(t, "example 4", kept, e, []int{0, 1, 2}, api.OK)
	kept, e = match.Kept(l, 2)
	same(t, "a greater tolerance", kept, e, []int{0, 1, 2, 3}, api.OK)
	kept, e = match.Kept(l, 0)
	same(t, "no tolerance", kept, e, []int{0}, api.OK)
	kept, e = match.Kept([]api.MatchPoint{point(0, 0, 0, 1), point(0, 0, 1, 0)}, 0)
	same(t, "the median of no point", kept, e, nil, api.OK)
	for _, tolerance := range []int{0, 8} {
		kept, e := match.Kept(nil, tolerance)
		same(t, "Kept of nothing", kept, e, nil, api.OK)
	}
	for _, tolerance := range wrongTolerances() {
		kept, e := match.Kept(nil, tolerance)
		same(t, "Kept of nothing, a wrong tolerance", kept, e, nil, api.ErrRange)
		kept, e = match.Kept(l, tolerance)
		same(t, "Kept, a wrong tolerance", kept, e, nil, api.ErrRange)
		kept, e = match.Kept(slices.Repeat(l, 10), tolerance)
		same(t, "Kept of too many points, a wrong tolerance", kept, e, nil, api.ErrLarge)
	}
	for what, x := range wrongPoints() {
		kept, e := match.Kept(x.x, 0)
		same(t, "Kept: "+what, kept, e, nil, x.e)
	}
}

func wrongTolerances() []int { return []int{-1, 9, -1 << 63, 1<<63 - 1} }
