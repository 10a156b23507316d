package match_test

import (
	"math"
	"math/big"
	"slices"
	"testing"

	"swath/api"
	"swath/echo"
	"swath/match"
)

// kernelOf returns the weight of a sample so far behind a place, in whole ones: for the kernel of four samples that of
// cubic convolution.
func kernelOf(kernel int, away *big.Rat) *big.Rat {
	x := new(big.Rat).Abs(away)
	switch {
	case kernel == api.KernelNearest && away.Cmp(part(-1, 2)) > 0 && away.Cmp(part(1, 2)) <= 0:
		return whole(1)
	case kernel == api.KernelLinear && x.Cmp(whole(1)) < 0:
		return plus(whole(1), times(whole(-1), x))
	case kernel == api.KernelCubic && x.Cmp(whole(1)) < 0:
		return plus(times(part(3, 2), x, x, x), times(part(-5, 2), x, x), whole(1))
	case kernel == api.KernelCubic && x.Cmp(whole(2)) < 0:
		return plus(times(part(-1, 2), x, x, x), times(part(5, 2), x, x), times(whole(-4), x), whole(2))
	}
	return new(big.Rat)
}

// rightSample sums over all samples of an image with the weights by their distance.
func rightSample(im api.RadarImage, kernel int, at [2]int) complex64 {
	sums := [2]*big.Rat{new(big.Rat), new(big.Rat)}
	for line := range im.Lines {
		v := kernelOf(kernel, plus(whole(line), part(-at[0], 16)))
		if v.Sign() == 0 {
			continue
		}
		for sample := range im.Samples {
			w := kernelOf(kernel, plus(whole(sample), part(-at[1], 16)))
			for i, x := range sampleOf(im, line, sample) {
				sums[i] = plus(sums[i], times(v, w, whole(x)))
			}
		}
	}
	var parts [2]float32
	for i, sum := range sums {
		parts[i] = float32(min(max(nearest(sum), -2047), 2047))
	}
	return complex(parts[0], parts[1])
}

// rightResampled asks for each sample at its place.
func rightResampled(im api.RadarImage, r api.MatchResample) api.RadarImage {
	out := api.RadarImage{Lines: r.Lines, Samples: r.Samples}
	for line := range r.Lines {
		for sample := range r.Samples {
			var at [2]int
			for i, by := range shiftOf(r.By, line, sample) {
				at[i] = 16*[2]int{line, sample}[i] + nearest(times(whole(16), by))
			}
			out.Data = append(out.Data, rightSample(im, r.Kernel, at))
		}
	}
	return out
}

func TestP3_4Weights(t *testing.T) {
	for _, x := range []struct {
		kernel, part int
		weights      []float32
		sum          float32
	}{
		{api.KernelNearest, 0, []float32{1, 0}, 1},
		{api.KernelNearest, 7, []float32{1, 0}, 1},
		{api.KernelNearest, 8, []float32{0, 1}, 1},
		{api.KernelNearest, 15, []float32{0, 1}, 1},
		{api.KernelLinear, 0, []float32{16, 0}, 16},
		{api.KernelLinear, 4, []float32{12, 4}, 16},
		{api.KernelLinear, 15, []float32{1, 15}, 16},
		{api.KernelCubic, 0, []float32{0, 8192, 0, 0}, 8192},
		{api.KernelCubic, 1, []float32{-225, 8115, 317, -15}, 8192},
		{api.KernelCubic, 8, []float32{-512, 4608, 4608, -512}, 8192},
		{api.KernelCubic, 15, []float32{-15, 317, 8115, -225}, 8192},
	} {
		weights, sum, e := match.Weights(x.kernel, x.part)
		want(t, "Weights", weights, e, x.weights, api.OK)
		want(t, "their sum", sum, e, x.sum, api.OK)
	}
	for _, kernel := range kernels() {
		for p := range 16 {
			weights, sum, e := match.Weights(kernel, p)
			for i, w := range weights {
				right, _ := times(kernelOf(kernel, plus(whole(i+1-len(weights)/2), part(-p, 16))), whole(int(sum))).Float32()
				want(t, "a weight", w, e, right, api.OK)
				if w == 0 && math.Signbit(float64(w)) {
					t.Error("the weight -0 of", kernel, p)
				}
			}
		}
	}
}

func TestP3_4WeightsErrors(t *testing.T) {
	for _, p := range []int{-1, 16, math.MinInt, math.MaxInt} {
		for _, kernel := range kernels() {
			weights, sum, e := match.Weights(kernel, p)
			want(t, "a wrong part", weights, e, []float32(nil), api.ErrRange)
			want(t, "a wrong part", sum, e, float32(0), api.ErrRange)
		}
		for _, kernel := range wrongKernels() {
			weights, sum, e := match.Weights(kernel, p)
			want(t, "a wrong kernel", weights, e, []float32(nil), api.ErrKind)
			want(t, "a wrong kernel", sum, e, float32(0), api.ErrKind)
		}
	}
	for _, kernel := range wrongKernels() {
		_, _, e := match.Weights(kernel, 0)
		want(t, "a wrong kernel", nil, e, nil, api.ErrKind)
	}
}

func TestP3_4SampleAt(t *testing.T) {
	line := row(10, 20)
	for _, x := range []struct {
		im     api.RadarImage
		kernel int
		at     [2]int
		right  complex64
	}{
		{line, api.KernelLinear, [2]int{0, 4}, 13},
		{line, api.KernelNearest, [2]int{0, 4}, 10},
		{line, api.KernelNearest, [2]int{0, 8}, 20},
		{line, api.KernelNearest, [2]int{7, 7}, 10},
		{line, api.KernelNearest, [2]int{8, 0}, 0},
		{line, api.KernelNearest, [2]int{-8, 0}, 10},
		{line, api.KernelNearest, [2]int{-9, 0}, 0},
		{line, api.KernelNearest, [2]int{0, -8}, 10},
		{line, api.KernelNearest, [2]int{0, -9}, 0},
		{line, api.KernelLinear, [2]int{8, 0}, 5},
		{line, api.KernelLinear, [2]int{-4, 16}, 15},
		{line, api.KernelLinear, [2]int{0, -8}, 5},
		{line, api.KernelLinear, [2]int{0, 24}, 10},
		{line, api.KernelLinear, [2]int{0, 32}, 0},
		{line, api.KernelLinear, [2]int{0, -16}, 0},
		{row(-17), api.KernelLinear, [2]int{0, 8}, -8},
		{row(-17i), api.KernelLinear, [2]int{0, 8}, -8i},
		{row(17 - 15i), api.KernelLinear, [2]int{8, 0}, 9 - 7i},
		{row(2047, 2047, 2047-2047i, 2047-2047i), api.KernelCubic, [2]int{0, 24}, 2047 - 1023i},
		{row(0, 2047, 2047, 0), api.KernelCubic, [2]int{0, 24}, 2047},
		{row(0, 2000, 2000, 0), api.KernelCubic, [2]int{0, 24}, 2047},
		{row(0, 1000, 1000, 0), api.KernelCubic, [2]int{0, 24}, 1125},
		{row(0, -2000i, -2000i, 0), api.KernelCubic, [2]int{0, 24}, -2047i},
		{row(1000, 0, 0, 1000), api.KernelCubic, [2]int{0, 24}, -125},
		{row(100), api.KernelCubic, [2]int{0, -8}, 56},
		{row(100), api.KernelCubic, [2]int{0, -24}, -6},
		{row(100), api.KernelCubic, [2]int{24, -24}, 0},
	} {
		z, e := match.SampleAt(x.im, x.kernel, x.at)
		want(t, "SampleAt", z, e, x.right, api.OK)
	}
}

func TestP3_4SampleAtSums(t *testing.T) {
	r := numbers{15}
	for i := range 1500 {
		im := r.image(1+r.below(7), 1+r.below(7), []int{1, 100, 2047}[i%3])
		if i%4 == 0 {
			for k, z := range im.Data { // as great as may be
				im.Data[k] = complex(float32(math.Copysign(2047, float64(real(z)))), 2047)
			}
		}
		at := [2]int{r.within(130), r.within(130)}
		for _, kernel := range kernels() {
			z, e := match.SampleAt(im, kernel, at)
			want(t, "SampleAt", z, e, rightSample(im, kernel, at), api.OK)
		}
	}
}

func TestP3_4SampleAtErrors(t *testing.T) {
	for _, kernel := range kernels() {
		for _, at := range [][2]int{{2048, 0}, {-2048, 0}, {0, 2048}, {0, -2048}, {2048, -2048}} {
			z, e := match.SampleAt(row(1), kernel, at)
			want(t, "far outside", z, e, complex64(0), api.OK)
		}
		for _, at := range [][2]int{{2049, 0}, {-2049, 0}, {0, 2049}, {0, -2049}, {math.MinInt, 0}, {0, math.MinInt}, {math.MaxInt, math.MaxInt}} {
			z, e := match.SampleAt(row(1), kernel, at)
			want(t, "a wrong place", z, e, complex64(0), api.ErrRange)
		}
		for what, x := range wrongImages() {
			z, e := match.SampleAt(x.x, kernel, [2]int{9999, 0})
			want(t, "SampleAt: "+what, z, e, complex64(0), x.e)
		}
	}
	for _, kernel := range wrongKernels() {
		z, e := match.SampleAt(row(1), kernel, [2]int{9999, 0})
		want(t, "a wrong kernel", z, e, complex64(0), api.ErrKind)
		z, e = match.SampleAt(row(0.5), kernel, [2]int{})
		want(t, "a wrong kernel of a wrong image", z, e, complex64(0), api.ErrWhole)
	}
}

func TestP3_4Resampled(t *testing.T) {
	im := image(2, 10, 20, 30, 40i, 50i, 60i)
	for _, x := range []struct {
		r     api.MatchResample
		right api.RadarImage
	}{
		{api.MatchResample{Lines: 2, Samples: 3, By: moving(0, 0)}, im},
		{api.MatchResample{Lines: 1, Samples: 1, By: moving(0, 0)}, row(10)},
		{api.MatchResample{Lines: 3, Samples: 4, By: moving(0, 0)}, image(3, 10, 20, 30, 0, 40i, 50i, 60i, 0, 0, 0, 0, 0)},
		{api.MatchResample{Lines: 2, Samples: 2, By: moving(1, 1)}, image(2, 50i, 60i, 0, 0)},
		{api.MatchResample{Lines: 2, Samples: 2, By: moving(-1, -1)}, image(2, 0, 0, 0, 10)},
		{api.MatchResample{Kernel: api.KernelLinear, Lines: 1, Samples: 3, By: affine(4, [3]int{2}, [3]int{1})}, row(6+21i, 11+26i, 11+23i)},
		{api.MatchResample{Lines: 3, Samples: 2, By: affine(1, [3]int{0, -1, 1}, [3]int{0, 1, -1})}, image(3, 10, 40i, 20, 50i, 30, 60i)},
		{api.MatchResample{Kernel: api.KernelLinear, Lines: 1, Samples: 5, By: affine(2, [3]int{}, [3]int{0, 0, -1})}, row(10, 15, 20, 25, 30)},
	} {
		got, e := match.Resampled(im, x.r)
		want(t, "Resampled", got, e, x.right, api.OK)
	}
}

func TestP3_4ResampledSums(t *testing.T) {
	r := numbers{16}
	for i := range 150 {
		im := r.image(1+r.below(9), 1+r.below(9), 2047)
		f := r.affine(1+r.below(200), 1+r.below(400))
		x := api.MatchResample{Kernel: kernels()[i%3], Lines: 1 + r.below(9), Samples: 1 + r.below(9), By: f}
		got, e := match.Resampled(im, x)
		want(t, "Resampled", got, e, rightResampled(im, x), api.OK)
	}
	im := r.image(64, 64, 2047)
	for _, kernel := range kernels() {
		x := api.MatchResample{Kernel: kernel, Lines: 64, Samples: 64, By: affine(640, [3]int{320, 7, -3}, [3]int{-1000, 5, 11})}
		got, e := match.Resampled(im, x)
		if e != api.OK || len(got.Data) != 64*64 {
			t.Fatal("Resampled:", len(got.Data), e)
		}
		for _, i := range []int{0, 63, 64, 1000, 2080, 4032, 4095} {
			part := api.MatchResample{Kernel: kernel, Lines: 1, Samples: 1, By: x.By}
			by, _ := match.ShiftAt(x.By, i/64, i%64)
			part.By = affine(16, [3]int{16*(i/64) + by[0]}, [3]int{16*(i%64) + by[1]})
			want(t, "a sample of many", got.Data[i], e, rightResampled(im, part).Data[0], api.OK)
		}
	}
}

// Shifts may lead as far away as the greatest numbers say; there all is 0.
func TestP3_4ResampledFarAway(t *testing.T) {
	const most = api.MaxMatchTerm
	for _, f := range []api.MatchAffine{affine(1, [3]int{most, most, most}, [3]int{-most, -most, -most}), affine(1, [3]int{-most, -most, -most}, [3]int{most, most, most}), affine(1, [3]int{0, most, 0}, [3]int{0, 0, -most})} {
		for _, kernel := range kernels() {
			right := empty(64, 64)
			if f.Line[0] == 0 {
				right.Data[0] = 1
			}
			im := image(64, slices.Repeat([]complex64{1}, 4096)...)
			got, e := match.Resampled(im, api.MatchResample{Kernel: kernel, Lines: 64, Samples: 64, By: f})
			want(t, "far away", got, e, right, api.OK)
		}
	}
}

func TestP3_4ResampledErrors(t *testing.T) {
	wrongSizes := []int{0, -1, 65, math.MinInt, math.MaxInt}
	right := api.MatchResample{Lines: 1, Samples: 1, By: moving(0, 0)}
	for what, x := range wrongImages() {
		for _, r := range []api.MatchResample{right, {Kernel: 9}, {}} {
			got, e := match.Resampled(x.x, r)
			want(t, "Resampled: "+what, got, e, api.RadarImage{}, x.e)
		}
	}
	for _, kernel := range wrongKernels() {
		for _, r := range []api.MatchResample{right, {}} {
			r.Kernel = kernel
			got, e := match.Resampled(row(1), r)
			want(t, "a wrong kernel", got, e, api.RadarImage{}, api.ErrKind)
		}
	}
	for _, n := range wrongSizes {
		r := right
		r.Lines = n
		got, e := match.Resampled(row(1), r)
		want(t, "wrong lines", got, e, api.RadarImage{}, api.ErrRange)
		r.Lines, r.Samples = 1, n
		got, e = match.Resampled(row(1), r)
		want(t, "wrong samples", got, e, api.RadarImage{}, api.ErrRange)
	}
	for what, f := range wrongAffines() {
		r := right
		r.By = f
		got, e := match.Resampled(row(1), r)
		want(t, "Resampled: "+what, got, e, api.RadarImage{}, api.ErrRange)
	}
}

// P3.9: at whole places all kernels give the samples themselves, and weights have their sum.
func TestP3_9WholePlaces(t *testing.T) {
	r := numbers{17}
	im := r.image(5, 6, 2047)
	for _, kernel := range kernels() {
		for line := -3; line < 8; line++ {
			for sample := -3; sample < 9; sample++ {
				var right complex64
				if line >= 0 && line < 5 && sample >= 0 && sample < 6 {
					right = im.Data[6*line+sample]
				}
				z, e := match.SampleAt(im, kernel, [2]int{16 * line, 16 * sample})
				want(t, "a whole place", z, e, right, api.OK)
			}
		}
		for p := range 16 {
			weights, sum, e := match.Weights(kernel, p)
			for _, w := range weights {
				sum -= w
			}
			want(t, "what the weights lack", sum, e, float32(0), api.OK)
		}
	}
}

// P3.9: a shift of whole lines and samples moves the image, and the opposite one moves it back.
func TestP3_9Moved(t *testing.T) {
	r := numbers{18}
	for range 40 {
		im := r.image(1+r.below(9), 1+r.below(9), 2047)
		by := [2]int{r.within(9), r.within(9)}
		for _, kernel := range kernels() {
			x := api.MatchResample{Kernel: kernel, Lines: im.Lines, Samples: im.Samples, By: moving(by[0], by[1])}
			moved, e := match.Resampled(im, x)
			right, _ := echo.Shifted(im, [2]int{-by[0], -by[1]})
			want(t, "the image moved", moved, e, right, api.OK)
			x.By = moving(-by[0], -by[1])
			back, e := match.Resampled(moved, x)
			stayed := func(i int) complex64 {
				line, sample := i/im.Samples-by[0], i%im.Samples-by[1]
				if line < 0 || line >= im.Lines || sample < 0 || sample >= im.Samples {
					return 0
				}
				return im.Data[i]
			}
			for i := range im.Data {
				want(t, "the image moved back", back.Data[i], e, stayed(i), api.OK)
			}
		}
	}
}
