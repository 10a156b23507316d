package match_test

import (
	"math"
	"math/big"
	"reflect"
	"slices"
	"testing"

	"swath/api"
)

var (
	notANumber  = float32(math.NaN())
	inf         = float32(math.Inf(1))
	minus       = float32(math.Copysign(0, -1))
	minusZero64 = complex(minus, minus)
)

// want compares a result and an error with those that are right.
func want(t *testing.T, what string, got any, e api.Errno, right any, rightError api.Errno) {
	t.Helper()
	if e != rightError {
		t.Errorf("%s: error %d, want %d", what, e, rightError)
	}
	if !reflect.DeepEqual(got, right) {
		t.Errorf("%s: %v, want %v", what, got, right)
	}
}

// zeroBeside checks that all results beside an error are zero.
func zeroBeside(t *testing.T, what string, e api.Errno, results ...any) {
	t.Helper()
	for _, x := range results {
		if e != api.OK && !reflect.ValueOf(x).IsZero() {
			t.Errorf("%s: %v beside the error %d", what, x, e)
		}
	}
}

// image returns an image of so many lines.
func image(lines int, samples ...complex64) api.RadarImage {
	return api.RadarImage{Lines: lines, Samples: len(samples) / lines, Data: samples}
}

func row(samples ...complex64) api.RadarImage { return image(1, samples...) }

// empty returns an image of nothing but 0.
func empty(lines, samples int) api.RadarImage {
	return image(lines, make([]complex64, lines*samples)...)
}

func pair(first, second api.RadarImage) api.MatchPair {
	return api.MatchPair{First: first, Second: second}
}

func window(line, sample, lines, samples int) api.MatchWindow {
	return api.MatchWindow{Line: line, Sample: sample, Lines: lines, Samples: samples}
}

// point returns a point with the score 1.
func point(line, sample, lines, samples int) api.MatchPoint {
	return api.MatchPoint{Line: line, Sample: sample, By: [2]int{lines, samples}, Score: 1000}
}

func affine(den int, line, sample [3]int) api.MatchAffine {
	return api.MatchAffine{Den: den, Line: line, Sample: sample}
}

// moving returns the shift of whole lines and samples.
func moving(lines, samples int) api.MatchAffine {
	return affine(1, [3]int{lines}, [3]int{samples})
}

// task returns a task of windows of one size, that takes all points.
func task(side, step, reach int) api.MatchTask {
	return api.MatchTask{Lines: side, Samples: side, Step: step, Reach: reach, Tolerance: api.MaxMatchOffset}
}

// examplePoints returns the points of example 3.
func examplePoints() []api.MatchPoint {
	return []api.MatchPoint{point(0, 0, 0, 1), point(10, 0, 0, 2), point(0, 10, 1, 1)}
}

// exampleAffine returns the shift of example 3.
func exampleAffine() api.MatchAffine {
	return affine(10, [3]int{0, 0, 1}, [3]int{10, 1, 0})
}

// numbers yields the same numbers in each run, below a bound.
type numbers struct{ state uint64 }

func (r *numbers) below(n int) int {
	r.state = r.state*6364136223846793005 + 1442695040888963407
	return int(r.state>>33) % n
}

// within returns a number from -most to most.
func (r *numbers) within(most int) int { return r.below(2*most+1) - most }

func (r *numbers) image(lines, samples, most int) api.RadarImage {
	im := api.RadarImage{Lines: lines, Samples: samples}
	for range lines * samples {
		im.Data = append(im.Data, complex(float32(r.within(most)), float32(r.within(most))))
	}
	return im
}

// points returns right points in a corner of all places, so that some lie on lines.
func (r *numbers) points(count, side int) []api.MatchPoint {
	var l []api.MatchPoint
	for range count {
		l = append(l, api.MatchPoint{
			Line:   r.below(side),
			Sample: r.below(side),
			By:     [2]int{r.within(api.MaxMatchOffset), r.within(api.MaxMatchOffset)},
			Score:  r.below(1001),
		})
	}
	return l
}

func (r *numbers) affine(den, term int) api.MatchAffine {
	f := affine(1+r.below(den), [3]int{}, [3]int{})
	for i := range f.Line {
		f.Line[i], f.Sample[i] = r.within(term), r.within(term)
	}
	return f
}

// whole and part are fractions.
func whole(n int) *big.Rat { return big.NewRat(int64(n), 1) }

func part(n, d int) *big.Rat { return big.NewRat(int64(n), int64(d)) }

func plus(a ...*big.Rat) *big.Rat {
	sum := new(big.Rat)
	for _, x := range a {
		sum.Add(sum, x)
	}
	return sum
}

func times(a ...*big.Rat) *big.Rat {
	product := whole(1)
	for _, x := range a {
		product.Mul(product, x)
	}
	return product
}

// down rounds down. Euclid's division does so, as denominators are above 0.
func down(x *big.Rat) int { return int(new(big.Int).Div(x.Num(), x.Denom()).Int64()) }

// nearest rounds to the nearest whole number, a half upwards.
func nearest(x *big.Rat) int { return down(plus(x, part(1, 2))) }

// shiftOf returns an affine shift at a place, exactly.
func shiftOf(f api.MatchAffine, line, sample int) [2]*big.Rat {
	var out [2]*big.Rat
	for i, terms := range [2][3]int{f.Line, f.Sample} {
		out[i] = plus(part(terms[0], f.Den), times(part(terms[1], f.Den), whole(line)), times(part(terms[2], f.Den), whole(sample)))
	}
	return out
}

// A wrong argument with its error, and the number beside it.
type wrong[T any] struct {
	x T
	n int
	e api.Errno
}

// wrongImages returns images with the errors that each function of an image returns.
func wrongImages() map[string]wrong[api.RadarImage] {
	return map[string]wrong[api.RadarImage]{
		"no image":         {api.RadarImage{}, 0, api.ErrRange},
		"no lines":         {api.RadarImage{Lines: 0, Samples: 1}, 0, api.ErrRange},
		"too many lines":   {empty(65, 1), 0, api.ErrRange},
		"too many samples": {empty(1, 65), 0, api.ErrRange},
		"no data":          {api.RadarImage{Lines: 2, Samples: 2}, 0, api.ErrShape},
		"half a sample":    {image(2, 1, 0.5), 1, api.ErrWhole},
		"no number":        {image(2, 1, complex(0, notANumber)), 1, api.ErrWhole},
		"infinite":         {row(complex(inf, 0)), 0, api.ErrWhole},
		"a great sample":   {image(2, 1, 2048i), 1, api.ErrRange},
	}
}

// wrongPairs returns pairs with their errors: those of the first image, then those of the second one.
func wrongPairs() map[string]wrong[api.MatchPair] {
	out := map[string]wrong[api.MatchPair]{
		"the first image first": {pair(row(0.5), row(4000)), 0, api.ErrWhole},
		"both images":           {pair(row(4000), row(0.5)), 0, api.ErrRange},
	}
	for what, x := range wrongImages() {
		out["first: "+what] = wrong[api.MatchPair]{pair(x.x, row(1)), 0, x.e}
		out["second: "+what] = wrong[api.MatchPair]{pair(row(1), x.x), 0, x.e}
	}
	return out
}

// wrongWindows returns windows that an image of 5 lines of 6 samples has not.
func wrongWindows() map[string]wrong[api.MatchWindow] {
	return map[string]wrong[api.MatchWindow]{
		"nothing":                 {api.MatchWindow{}, 0, api.ErrRange},
		"no lines":                {window(0, 0, 0, 1), 0, api.ErrRange},
		"no samples":              {window(0, 0, 1, 0), 0, api.ErrRange},
		"lines below 0":           {window(0, 0, math.MinInt, 1), 0, api.ErrRange},
		"9 lines":                 {window(0, 0, 9, 1), 0, api.ErrRange},
		"9 samples":               {window(0, 0, 1, 9), 0, api.ErrRange},
		"most samples":            {window(0, 0, 1, math.MaxInt), 0, api.ErrRange},
		"no lines, far away":      {window(-1, 99, 0, 1), 0, api.ErrRange},
		"a line before":           {window(-1, 0, 1, 1), 0, api.ErrBreak},
		"a sample before":         {window(0, -1, 1, 1), 0, api.ErrBreak},
		"a line behind":           {window(5, 0, 1, 1), 0, api.ErrBreak},
		"a sample behind":         {window(0, 6, 1, 1), 0, api.ErrBreak},
		"lines that leave it":     {window(3, 0, 3, 1), 0, api.ErrBreak},
		"samples that leave it":   {window(0, 4, 1, 3), 0, api.ErrBreak},
		"more lines than it":      {window(0, 0, 6, 1), 0, api.ErrBreak},
		"more samples than it":    {window(0, 0, 1, 7), 0, api.ErrBreak},
		"the last line of all":    {window(math.MaxInt, 0, 8, 1), 0, api.ErrBreak},
		"the first line of all":   {window(math.MinInt, 0, 8, 1), 0, api.ErrBreak},
		"the last sample of all":  {window(0, math.MaxInt, 1, 8), 0, api.ErrBreak},
		"the first sample of all": {window(0, math.MinInt, 1, 8), 0, api.ErrBreak},
	}
}

// wrongTasks returns tasks of which one number is out of its range.
func wrongTasks() []api.MatchTask {
	right := task(2, 3, 1)
	var out []api.MatchTask
	for _, x := range []struct {
		number      func(*api.MatchTask) *int
		least, most int
	}{
		{func(t *api.MatchTask) *int { return &t.Lines }, 1, 8},
		{func(t *api.MatchTask) *int { return &t.Samples }, 1, 8},
		{func(t *api.MatchTask) *int { return &t.Step }, 1, 64},
		{func(t *api.MatchTask) *int { return &t.Reach }, 0, 4},
		{func(t *api.MatchTask) *int { return &t.Least }, 0, 1000},
		{func(t *api.MatchTask) *int { return &t.Tolerance }, 0, 8},
	} {
		for _, n := range []int{x.least - 1, x.most + 1, math.MinInt, math.MaxInt} {
			wrongTask := right
			*x.number(&wrongTask) = n
			out = append(out, wrongTask)
		}
	}
	return append(out, api.MatchTask{})
}

// wrongPoints returns points with the errors that each function of points returns.
func wrongPoints() map[string]wrong[[]api.MatchPoint] {
	scored := func(score int) api.MatchPoint { return api.MatchPoint{Score: score} }
	with := func(l ...api.MatchPoint) []api.MatchPoint { return append(examplePoints(), l...) }
	return map[string]wrong[[]api.MatchPoint]{
		"31 points":              {slices.Repeat([]api.MatchPoint{{}}, 31), 0, api.ErrLarge},
		"31 wrong points":        {slices.Repeat([]api.MatchPoint{{Line: -1}}, 31), 0, api.ErrLarge},
		"a line below 0":         {with(point(-1, 0, 0, 0)), 3, api.ErrRange},
		"line 64":                {with(point(64, 0, 0, 0)), 3, api.ErrRange},
		"a sample below 0":       {with(point(1, -1, 0, 0), point(-1, 0, 0, 0)), 3, api.ErrRange},
		"sample 64":              {with(point(0, 0, 0, 0), point(0, 64, 0, 0)), 4, api.ErrRange},
		"an offset of 9 lines":   {with(point(0, 0, 9, 0)), 3, api.ErrRange},
		"of -9 lines":            {with(point(0, 0, -9, 0)), 3, api.ErrRange},
		"of 9 samples":           {with(point(0, 0, 0, 9)), 3, api.ErrRange},
		"of -9 samples":          {with(point(0, 0, 0, -9)), 3, api.ErrRange},
		"of the least number":    {[]api.MatchPoint{point(0, 0, math.MinInt, 0)}, 0, api.ErrRange},
		"a score below 0":        {with(scored(-1)), 3, api.ErrRange},
		"a score of 1001":        {with(scored(1001)), 3, api.ErrRange},
		"the greatest line":      {[]api.MatchPoint{point(math.MaxInt, 0, 0, 0)}, 0, api.ErrRange},
		"the second of 30 wrong": {slices.Concat(examplePoints()[:1], slices.Repeat([]api.MatchPoint{{Line: -1}}, 29)), 1, api.ErrRange},
	}
}

// wrongAffines returns shifts that are out of range.
func wrongAffines() map[string]api.MatchAffine {
	const most = api.MaxMatchTerm
	return map[string]api.MatchAffine{
		"nothing":                    {},
		"a denominator below 0":      affine(-1, [3]int{}, [3]int{}),
		"a great denominator":        affine(1000000000001, [3]int{}, [3]int{}),
		"the least denominator":      affine(math.MinInt, [3]int{}, [3]int{}),
		"a great number of lines":    affine(1, [3]int{most + 1}, [3]int{}),
		"below 0":                    affine(1, [3]int{0, -most - 1}, [3]int{}),
		"the third one":              affine(1, [3]int{0, 0, most + 1}, [3]int{}),
		"the least one":              affine(1, [3]int{math.MinInt}, [3]int{}),
		"a great number of samples":  affine(1, [3]int{}, [3]int{-most - 1}),
		"the second one of samples":  affine(1, [3]int{}, [3]int{0, most + 1}),
		"the third one of samples":   affine(1, [3]int{}, [3]int{0, 0, -most - 1}),
		"the greatest one of sample": affine(1, [3]int{}, [3]int{0, 0, math.MaxInt}),
	}
}

// wrongKernels returns numbers of which none is that of a kernel.
func wrongKernels() []int { return []int{-1, 3, math.MinInt, math.MaxInt} }

func kernels() []int { return []int{api.KernelNearest, api.KernelLinear, api.KernelCubic} }

// hasMinusZero tells -0 in the parts of samples.
func hasMinusZero(samples []complex64) bool {
	isMinusZero := func(x float32) bool { return x == 0 && math.Signbit(float64(x)) }
	return slices.ContainsFunc(samples, func(z complex64) bool { return isMinusZero(real(z)) || isMinusZero(imag(z)) })
}
