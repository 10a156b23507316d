package match_test

import (
	"slices"
	"testing"

	"swath/api"
	"swath/echo"
	"swath/match"
)

// moved returns an image moved by lines and samples.
func moved(t *testing.T, im api.RadarImage, lines, samples int) api.RadarImage {
	t.Helper()
	out, e := echo.Shifted(im, [2]int{lines, samples})
	if e != api.OK {
		t.Fatal("Shifted:", e)
	}
	return out
}

// with returns a copy of an image with another sample.
func with(im api.RadarImage, line, sample int, z complex64) api.RadarImage {
	im.Data = slices.Clone(im.Data)
	im.Data[line*im.Samples+sample] = z
	return im
}

// A registration is what Register returns.
type registration struct {
	Image  api.RadarImage
	Affine api.MatchAffine
	Points []api.MatchPoint
}

func register(p api.MatchPair, x api.MatchTask, kernel int) (registration, api.Errno) {
	im, f, l, e := match.Register(p, x, kernel)
	return registration{im, f, l}, e
}

// rightRegistration goes the way of the definition step by step.
func rightRegistration(p api.MatchPair, x api.MatchTask, kernel int) (registration, api.Errno) {
	l, _ := match.Offsets(p, x)
	fit, _ := match.Kept(l, x.Tolerance)
	var kept []api.MatchPoint
	for _, i := range fit {
		kept = append(kept, l[i])
	}
	if rightRank(kept) < 3 {
		return registration{}, api.ErrRank
	}
	f, _ := match.Fit(kept)
	im := rightResampled(p.Second, api.MatchResample{Kernel: kernel, Lines: p.First.Lines, Samples: p.First.Samples, By: f})
	return registration{im, f, kept}, api.OK
}

func TestP3_5Register(t *testing.T) {
	r := numbers{19}
	first := r.image(16, 18, 2000)
	second := moved(t, first, 2, -1)
	x := api.MatchTask{Lines: 4, Samples: 4, Step: 5, Reach: 3, Least: 990, Tolerance: 0}
	for _, kernel := range kernels() {
		got, e := register(pair(first, second), x, kernel)
		right := []api.MatchPoint{point(2, 7, 2, -1), point(2, 12, 2, -1), point(7, 7, 2, -1), point(7, 12, 2, -1), point(12, 7, 2, -1), point(12, 12, 2, -1)}
		slices.SortFunc(right, func(a, b api.MatchPoint) int { return 64*(a.Line-b.Line) + a.Sample - b.Sample })
		want(t, "Register", got.Points, e, right, api.OK)
		want(t, "the shift", got.Affine, e, moving(2, -1), api.OK)
		want(t, "the image", got.Image, e, moved(t, second, -2, 1), api.OK)
	}
}

func TestP3_5RegisterSums(t *testing.T) {
	r := numbers{20}
	counts := map[api.Errno]int{}
	for i := range 150 {
		first := r.image(6+r.below(9), 6+r.below(9), 1+20*(i%2))
		second := r.image(3+r.below(9), 3+r.below(9), 1+20*(i%2))
		if i%3 == 0 {
			second = moved(t, first, r.within(2), r.within(2))
			second = with(second, r.below(first.Lines), r.below(first.Samples), 21)
		}
		x := api.MatchTask{Lines: 1 + r.below(4), Samples: 1 + r.below(4), Step: 3 + r.below(3), Reach: r.below(4), Least: r.below(1001), Tolerance: r.below(4)}
		if len(rightWindows(first, x)) > 30 {
			continue
		}
		got, e := register(pair(first, second), x, kernels()[i%3])
		right, f := rightRegistration(pair(first, second), x, kernels()[i%3])
		want(t, "Register", got, e, right, f)
		counts[f]++
	}
	if counts[api.OK] < 20 || counts[api.ErrRank] < 20 {
		t.Error("too few of one kind:", counts)
	}
}

// A point that does not fit is left out, and the rank is that of the others.
func TestP3_5RegisterLeavesOut(t *testing.T) {
	r := numbers{21}
	first := r.image(6, 6, 2000)
	second := with(first, 5, 4, 1)
	for i := range 4 { // what is in the last window stands one line up
		line, sample := 4+i/2, 4+i%2
		second = with(second, line-1, sample, first.Data[6*line+sample])
	}
	x := task(2, 4, 1)
	x.Tolerance = 0
	p := pair(first, second)
	all, e := match.Offsets(p, x)
	want(t, "the last offset", all[3], e, point(5, 5, -1, 0), api.OK)
	got, e := register(p, x, api.KernelNearest)
	want(t, "the points that fit", got.Points, e, all[:3], api.OK)
	want(t, "the shift", got.Affine, e, moving(0, 0), api.OK)
	want(t, "the image", got.Image, e, second, api.OK)
	x.Tolerance = 1
	got, e = register(p, x, api.KernelNearest)
	want(t, "all points", got.Points, e, all, api.OK)
	want(t, "their shift", got.Affine, e, affine(8, [3]int{4, -1, -1}, [3]int{}), api.OK)
}

func TestP3_5RegisterErrors(t *testing.T) {
	for what, x := range wrongPairs() {
		got, e := register(x.x, api.MatchTask{}, 9)
		want(t, "Register: "+what, got, e, registration{}, x.e)
	}
	r := numbers{22}
	im := r.image(12, 12, 2000)
	for _, x := range wrongTasks() {
		got, e := register(pair(im, im), x, 9)
		want(t, "a wrong task", got, e, registration{}, api.ErrRange)
	}
	for _, kernel := range wrongKernels() {
		got, e := register(pair(im, im), task(1, 1, 0), kernel)
		want(t, "too many windows", got, e, registration{}, api.ErrLarge)
		got, e = register(pair(im, im), task(2, 4, 1), kernel)
		want(t, "a wrong kernel", got, e, registration{}, api.ErrKind)
		got, e = register(pair(im, im), task(2, 64, 1), kernel)
		want(t, "a wrong kernel, and a lesser rank", got, e, registration{}, api.ErrKind)
	}
	line := r.image(1, 60, 2000)
	for _, p := range []api.MatchPair{pair(empty(12, 12), im), pair(im, empty(12, 12)), pair(line, line), pair(row(1), row(1))} {
		got, e := register(p, task(1, 4, 1), api.KernelLinear)
		want(t, "a lesser rank", got, e, registration{}, api.ErrRank)
	}
}

// P3.10: an image that was moved is found again where it has what it had.
func TestP3_10Registered(t *testing.T) {
	r := numbers{23}
	for range 30 {
		im := r.image(10, 12, 2000)
		lines, samples := r.within(4), r.within(4)
		other := moved(t, im, lines, samples)
		for _, w := range windowsIn(&r, im) {
			if w.Line+lines < 0 || w.Line+lines+w.Lines > 10 || w.Sample+samples < 0 || w.Sample+samples+w.Samples > 12 {
				continue
			}
			score, e := match.Score(pair(im, other), w, [2]int{lines, samples})
			want(t, "the score of a moved image", score, e, [2]int{1, 1}, api.OK)
			if w.Lines*w.Samples == 1 {
				continue // all single samples agree
			}
			by, score, e := match.BestOffset(pair(im, other), w, 4)
			want(t, "the offset of a moved image", by, e, [2]int{lines, samples}, api.OK)
			want(t, "its score", score, e, [2]int{1, 1}, api.OK)
		}
	}
}
