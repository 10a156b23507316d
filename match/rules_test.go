package match_test

import (
	"math"
	"reflect"
	"slices"
	"testing"

	"swath/api"
	"swath/match"
)

// oddImages returns images of which most are wrong.
func oddImages() []api.RadarImage {
	r := numbers{25}
	out := []api.RadarImage{
		row(1, 2i), r.image(6, 7, api.MaxSample), row(minusZero64), empty(3, 3),
		{Lines: math.MinInt, Samples: math.MinInt}, {Lines: math.MaxInt, Samples: math.MaxInt},
		{Lines: 1 << 32, Samples: 1 << 32}, {Lines: 64, Samples: 64}, {Data: make([]complex64, 5000)},
	}
	for _, x := range wrongImages() {
		out = append(out, x.x)
	}
	return out
}

func oddNumbers() []int {
	return []int{0, 1, -1, 8, 64, -2049, 1000000000000, math.MaxInt, math.MinInt, math.MinInt + 63}
}

func oddPoints() [][]api.MatchPoint {
	r := numbers{26}
	out := [][]api.MatchPoint{nil, examplePoints(), r.points(30, 64), r.points(5, 1), make([]api.MatchPoint, 5000)}
	for _, n := range oddNumbers() {
		out = append(out, []api.MatchPoint{{Line: n, Sample: -n, By: [2]int{n, n}, Score: n}, point(0, 0, n, n)})
	}
	for _, x := range wrongPoints() {
		out = append(out, x.x)
	}
	return out
}

func oddAffines() []api.MatchAffine {
	out := []api.MatchAffine{exampleAffine(), moving(1, 1)}
	for _, n := range oddNumbers() {
		out = append(out, affine(n, [3]int{n, n, n}, [3]int{-n, n, -n}), affine(1, [3]int{n, -n, n}, [3]int{n, n, n}))
	}
	for _, f := range wrongAffines() {
		out = append(out, f)
	}
	return out
}

// P1 of the document: every function terminates and does not panic, and beside an error all is zero.
func TestP1NoPanicOfImages(t *testing.T) {
	for _, im := range oddImages() {
		for _, n := range oddNumbers() {
			for _, w := range []api.MatchWindow{window(n, 0, 1, 1), window(0, n, 8, 8), window(0, 0, n, 1), window(n, n, n, n), window(0, 0, 1, 1)} {
				match.CheckWindow(im, w)
				a, e := match.Cut(im, w)
				zeroBeside(t, "Cut", e, a)
				for _, second := range oddImages() {
					s, e := match.Score(pair(im, second), w, [2]int{n, -n})
					zeroBeside(t, "Score", e, s)
					by, s, e := match.BestOffset(pair(im, second), w, n)
					zeroBeside(t, "BestOffset", e, by, s)
				}
			}
			for _, kernel := range append(kernels(), n) {
				z, e := match.SampleAt(im, kernel, [2]int{n, -n})
				zeroBeside(t, "SampleAt", e, z)
				for _, f := range oddAffines() {
					a, e := match.Resampled(im, api.MatchResample{Kernel: kernel, Lines: 2, Samples: 3, By: f})
					zeroBeside(t, "Resampled", e, a)
				}
				a, e := match.Resampled(im, api.MatchResample{Kernel: kernel, Lines: n, Samples: n, By: moving(0, 0)})
				zeroBeside(t, "Resampled", e, a)
			}
		}
	}
}

// P1 of the document, for tasks.
func TestP1NoPanicOfTasks(t *testing.T) {
	for _, im := range oddImages() {
		for _, second := range oddImages() {
			for _, n := range oddNumbers() {
				for _, x := range []api.MatchTask{task(1, 4, 1), {Lines: n, Samples: n, Step: n}, {Lines: 1, Samples: 1, Step: n, Reach: n, Least: n, Tolerance: n}} {
					match.CheckTask(x)
					p := pair(im, second)
					windows, e := match.Windows(p, x)
					zeroBeside(t, "Windows", e, windows)
					points, e := match.Offsets(p, x)
					zeroBeside(t, "Offsets", e, points)
					for _, kernel := range []int{n, api.KernelCubic} {
						got, e := register(p, x, kernel)
						zeroBeside(t, "Register", e, got)
					}
				}
			}
		}
	}
}

// P1 of the document, for points and shifts.
func TestP1NoPanicOfPoints(t *testing.T) {
	for _, l := range oddPoints() {
		match.CheckPoints(l)
		median, e := match.Median(l)
		zeroBeside(t, "Median", e, median)
		rank, e := match.RankOf(l)
		zeroBeside(t, "RankOf", e, rank)
		f, e := match.Fit(l)
		zeroBeside(t, "Fit", e, f)
		for _, n := range oddNumbers() {
			kept, e := match.Kept(l, n)
			zeroBeside(t, "Kept", e, kept)
		}
		for _, f := range oddAffines() {
			n, e := match.Worst(f, l)
			zeroBeside(t, "Worst", e, n)
		}
		for _, x := range l {
			match.FormatPoint(x)
		}
	}
	for _, f := range oddAffines() {
		match.CheckAffine(f)
		match.FormatAffine(f)
		for _, n := range oddNumbers() {
			for _, m := range oddNumbers() {
				by, e := match.ShiftAt(f, n, m)
				zeroBeside(t, "ShiftAt", e, by)
				weights, sum, e := match.Weights(n, m)
				zeroBeside(t, "Weights", e, weights, sum)
			}
		}
	}
}

// P1 of the document, for texts.
func TestP1NoPanicOfTexts(t *testing.T) {
	for _, whole := range []string{"12 3 0 -1 998", "10 0 0 1 10 1 0"} {
		for i := range len(whole) {
			for _, s := range []string{whole[:i], whole[i:], whole[:i] + "\x00" + whole[i:], whole[:i] + "9" + whole[i+1:], whole[:i] + "-" + whole[i:]} {
				x, e := match.ParsePoint(s)
				zeroBeside(t, "ParsePoint", e, x)
				f, e := match.ParseAffine(s)
				zeroBeside(t, "ParseAffine", e, f)
			}
		}
	}
}

// R3: nothing is written into an argument, and results share no memory with them.
func TestR3ArgumentsStay(t *testing.T) {
	r := numbers{27}
	first, second, l := r.image(12, 12, 2000), r.image(12, 12, 2000), r.points(30, 64)
	kept := [][]complex64{slices.Clone(first.Data), slices.Clone(second.Data)}
	keptPoints := slices.Clone(l)
	p := pair(first, second)
	for range 2 {
		a, _ := match.Cut(first, window(0, 0, 1, 8))
		b, _ := match.Resampled(first, api.MatchResample{Lines: 12, Samples: 12, By: moving(0, 0)})
		c, d, _, e := match.Register(p, task(3, 4, 2), api.KernelLinear)
		if e != api.OK {
			t.Fatal("Register:", e)
		}
		want(t, "the images", []int{len(a.Data), len(b.Data), len(c.Data)}, match.CheckAffine(d), []int{8, 144, 144}, api.OK)
		clear(a.Data)
		clear(b.Data)
		clear(c.Data)
		weights, _, _ := match.Weights(api.KernelLinear, 4)
		want(t, "Weights", weights, api.OK, []float32{12, 4}, api.OK)
		clear(weights)
	}
	match.Score(p, window(0, 0, 2, 2), [2]int{1, 1})
	match.BestOffset(p, window(0, 0, 2, 2), 4)
	match.SampleAt(first, api.KernelCubic, [2]int{3, 5})
	match.CheckPoints(l)
	match.Median(l)
	match.Kept(l, 3)
	match.RankOf(l)
	match.Fit(l)
	match.Worst(exampleAffine(), l)
	if !slices.Equal(first.Data, kept[0]) || !slices.Equal(second.Data, kept[1]) || !reflect.DeepEqual(l, keptPoints) {
		t.Error("an argument is changed")
	}
}

// No result has -0, whatever signs the zeros of the arguments have.
func TestNoMinusZero(t *testing.T) {
	zero := float32(0)
	zeros := []complex64{complex(zero, zero), complex(zero, minus), complex(minus, zero), complex(minus, minus), -1, 1, -1i, 1i}
	im := image(2, append(slices.Clone(zeros), zeros...)...)
	cut, e := match.Cut(im, window(0, 0, 2, 8))
	if e != api.OK || hasMinusZero(cut.Data) {
		t.Error("Cut:", cut, e)
	}
	for _, kernel := range kernels() {
		for line := -40; line < 80; line++ {
			for sample := -40; sample < 180; sample++ {
				z, e := match.SampleAt(im, kernel, [2]int{line, sample})
				if e != api.OK || hasMinusZero([]complex64{z}) {
					t.Fatal("SampleAt:", kernel, line, sample, z, e)
				}
			}
		}
		got, e := match.Resampled(im, api.MatchResample{Kernel: kernel, Lines: 4, Samples: 10, By: affine(3, [3]int{-2, 0, 0}, [3]int{1, 0, 0})})
		if e != api.OK || hasMinusZero(got.Data) {
			t.Error("Resampled:", got, e)
		}
	}
}

// -0 counts as 0 in arguments.
func TestMinusZeroIsZero(t *testing.T) {
	score, e := match.Score(pair(row(1, minusZero64), row(2, 0)), window(0, 0, 1, 2), [2]int{})
	want(t, "Score", score, e, [2]int{1, 1}, api.OK)
	_, e = match.Score(pair(row(minusZero64), row(2)), window(0, 0, 1, 1), [2]int{})
	want(t, "Score", nil, e, nil, api.ErrZero)
}
