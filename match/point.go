package match

import (
	"slices"

	"swath/api"
)

// mostScore is a score of 1 in thousandths.
const mostScore = 1000

// Windows returns the windows of a task.
func Windows(p api.MatchPair, t api.MatchTask) ([]api.MatchWindow, api.Errno) {
	if e := firstError(pairError(p), CheckTask(t)); e != api.OK {
		return nil, e
	}
	var windows []api.MatchWindow
	for line := 0; line+t.Lines <= p.First.Lines; line += t.Step {
		for sample := 0; sample+t.Samples <= p.First.Samples; sample += t.Step {
			windows = append(windows, api.MatchWindow{Line: line, Sample: sample, Lines: t.Lines, Samples: t.Samples})
		}
	}
	if len(windows) > api.MaxMatchPoints {
		return nil, api.ErrLarge
	}
	return windows, api.OK
}

// Offsets returns the points of a task.
func Offsets(p api.MatchPair, t api.MatchTask) ([]api.MatchPoint, api.Errno) {
	windows, e := Windows(p, t)
	if e != api.OK {
		return nil, e
	}
	var points []api.MatchPoint
	for _, w := range windows {
		best, found := scenesOf(p).best(w, t.Reach)
		if !found {
			continue
		}
		if x := pointOf(w, best); x.Score >= t.Least {
			points = append(points, x)
		}
	}
	return points, api.OK
}

// pointOf returns the point of a window with its best offset.
func pointOf(w api.MatchWindow, best offset) api.MatchPoint {
	return api.MatchPoint{
		Line:   w.Line + w.Lines/2,
		Sample: w.Sample + w.Samples/2,
		By:     best.by,
		Score:  partsOf(best.score, mostScore),
	}
}

// Median returns the median of points.
func Median(l []api.MatchPoint) ([2]int, api.Errno) {
	if e := pointsError(l); e != api.OK {
		return [2]int{}, e
	}
	if len(l) == 0 {
		return [2]int{}, api.ErrShape
	}
	return medianOf(l), api.OK
}

// Kept returns the numbers of the points that fit within a tolerance.
func Kept(l []api.MatchPoint, tolerance int) ([]int, api.Errno) {
	if e := firstError(pointsError(l), toleranceError(tolerance)); e != api.OK {
		return nil, e
	}
	return keptOf(l, tolerance), api.OK
}

// medianOf returns the median of points, of which there must be one.
func medianOf(l []api.MatchPoint) [2]int {
	var median [2]int
	for i := range median {
		var numbers []int
		for _, x := range l {
			numbers = append(numbers, x.By[i])
		}
		slices.Sort(numbers)
		median[i] = numbers[(len(numbers)-1)/2]
	}
	return median
}

func keptOf(l []api.MatchPoint, tolerance int) []int {
	if len(l) == 0 {
		return nil
	}
	median := medianOf(l)
	var kept []int
	for i, x := range l {
		if sizeOf(x.By[0]-median[0]) <= tolerance && sizeOf(x.By[1]-median[1]) <= tolerance {
			kept = append(kept, i)
		}
	}
	return kept
}
