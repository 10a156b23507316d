package fringe_test

import (
	"math"
	"math/big"
	"slices"
	"testing"

	"swath/api"
	"swath/fringe"
)

func times(a ...int) *big.Int {
	product := big.NewInt(1)
	for _, n := range a {
		product.Mul(product, big.NewInt(int64(n)))
	}
	return product
}

// coherenceAt sums whole numbers and tries all coherences from the greatest one on.
func coherenceAt(a, b api.RadarImage, line, sample, half int) float32 {
	var s [2]int
	p, q := 0, 0
	for l := max(0, line-half); l <= min(a.Lines-1, line+half); l++ {
		for k := max(0, sample-half); k <= min(a.Samples-1, sample+half); k++ {
			z, w := a.Data[l*a.Samples+k], b.Data[l*a.Samples+k]
			x, y, u, v := int(real(z)), int(imag(z)), int(real(w)), int(imag(w))
			s[0], s[1] = s[0]+x*u+y*v, s[1]+y*u-x*v
			p, q = p+x*x+y*y, q+u*u+v*v
		}
	}
	if p == 0 || q == 0 {
		return 0
	}
	energy := new(big.Int).Add(times(s[0], s[0], 1000000), times(s[1], s[1], 1000000))
	both := times(p, q)
	for t := 1000; t > 0; t-- {
		if new(big.Int).Mul(times(t, t), both).Cmp(energy) <= 0 {
			return float32(t)
		}
	}
	return 0
}

func coherence(a, b api.RadarImage, half int) api.FloatMap {
	out := api.FloatMap{Rows: a.Lines, Columns: a.Samples}
	for i := range a.Data {
		out.Data = append(out.Data, coherenceAt(a, b, i/a.Samples, i%a.Samples, half))
	}
	return out
}

func TestP4_4CoherenceExamples(t *testing.T) {
	for what, x := range map[string]struct {
		a, b  api.RadarImage
		half  int
		right api.FloatMap
	}{
		"example 5":          {row(1, 1), row(1, 1i), 1, floats(1, 707, 707)},
		"one sample alone":   {row(1, 2i, -3), row(5, -7, 2-1i), 0, floats(1, 1000, 1000, 1000)},
		"nothing in one":     {row(0, 1, 0), row(1, minusZero64, 0), 0, floats(1, 0, 0, 0)},
		"a window with 0":    {row(0, 0, 1), row(1, 1, 1), 1, floats(1, 0, 577, 707)},
		"no coherence":       {row(1, 1), row(1, -1), 4, floats(1, 0, 0)},
		"a whole quotient":   {row(1, 1, 1, 1), row(1, 1, 1, -1), 4, floats(1, 500, 500, 500, 500)},
		"three of five":      {row(1, 1, 1, 1, 1), row(1, 1, 1, 1, -1), 4, floats(1, 600, 600, 600, 600, 600)},
		"nothing in common":  {row(2047, 2047, 0, 0, 0), row(0, 0, 0, 0, 1), 0, floats(1, 0, 0, 0, 0, 0)},
		"lines and samples":  {image(2, 1, 0, 0, 0), image(2, 1, 0, 0, 1), 1, floats(2, 707, 707, 707, 707)},
		"a window of a line": {image(3, 1, 1, 1), image(3, 1, 1i, 1), 1, floats(3, 707, 745, 707)},
	} {
		q, e := fringe.Coherence(x.a, x.b, x.half)
		want(t, what, q, e, x.right, api.OK)
	}
}

func TestP4_4CoherenceSums(t *testing.T) {
	r := numbers{61}
	for _, size := range append(sizes()[:9], [2]int{11, 10}) {
		for _, most := range []int{1, 4, api.MaxSample} {
			a, b := r.image(size[0], size[1], most), r.image(size[0], size[1], most)
			for half := range api.MaxWindow + 1 {
				q, e := fringe.Coherence(a, b, half)
				want(t, "Coherence", q, e, coherence(a, b, half), api.OK)
			}
		}
	}
}

// The numbers are too great for 64 bits, and near to where the next coherence begins.
func TestP4_4CoherenceIsExact(t *testing.T) {
	full := func(from, count int, z complex64) []complex64 {
		return append(slices.Repeat([]complex64{2047 + 2047i}, from), slices.Repeat([]complex64{z}, count)...)
	}
	for count := range 82 {
		for _, z := range []complex64{-2047 - 2047i, -2047 - 2046i, -2046 - 2047i, -2047 + 2047i, 2047 + 2046i, 2046 + 2046i, -1, 0} {
			a, b := image(9, full(81, 0, 0)...), image(9, full(81-count, count, z)...)
			q, e := fringe.Coherence(a, b, 4)
			if right := coherenceAt(a, b, 4, 4, 4); e != api.OK || q.Data[40] != right {
				t.Errorf("%d of %v: %v, want %v, error %d", count, z, q.Data[40], right, e)
			}
		}
	}
	a, b := row(2047, 2047, 2047, 2047, 2047), row(2047, 2047, 2047, 2047, -2047)
	q, e := fringe.Coherence(a, b, 4)
	want(t, "three of five", q, e, floats(1, 600, 600, 600, 600, 600), api.OK)
	b.Data[4] = -2047 + 1i
	q, e = fringe.Coherence(a, b, 4)
	want(t, "a little more", q, e, coherence(a, b, 4), api.OK)
	a.Data[4] = 2046
	q, e = fringe.Coherence(a, a, 4)
	want(t, "the same image", q, e, floats(1, 1000, 1000, 1000, 1000, 1000), api.OK)
	q, e = fringe.Coherence(row(2047, 2047), row(2047, 2046), 1)
	want(t, "nearly the same image", q, e, floats(1, 999, 999), api.OK)
}

func TestP4_4CoherenceErrors(t *testing.T) {
	for _, half := range []int{-1, 5, math.MinInt, math.MaxInt} {
		q, e := fringe.Coherence(row(1), row(1), half)
		want(t, "a window that is none", q, e, api.FloatMap{}, api.ErrRange)
		q, e = fringe.Coherence(row(1, 2), row(1), half)
		want(t, "a clash ahead of the window", q, e, api.FloatMap{}, api.ErrClash)
		q, e = fringe.Coherence(row(1), row(0.5), half)
		want(t, "a wrong image ahead of the window", q, e, api.FloatMap{}, api.ErrWhole)
	}
}

// P4.10: the coherence of an image with itself, and of two images the other way round.
func TestP4_10CoherenceOfItself(t *testing.T) {
	r := numbers{62}
	for _, most := range []int{1, 3, api.MaxSample} {
		a, b := r.image(20, 21, most), r.image(20, 21, most)
		clear(a.Data[5*21 : 11*21])
		for half := range api.MaxWindow + 1 {
			q, e := fringe.Coherence(a, a, half)
			if e != api.OK {
				t.Fatal("Coherence:", e)
			}
			for i, x := range q.Data {
				f, _ := fringe.Filtered(api.RadarField{Lines: 20, Samples: 21, Data: interferogram(a, a).Data}, half)
				if right := map[bool]float32{true: 0, false: 1000}[f.Data[i] == 0]; x != right {
					t.Errorf("the coherence of an image with itself: %v, want %v", x, right)
				}
			}
			one, e := fringe.Coherence(a, b, half)
			other, f := fringe.Coherence(b, a, half)
			want(t, "the other way round", one, e, other, f)
		}
	}
}

// squareOf divides and rounds down whole numbers of any size.
func squareOf(coherence, looks int) int {
	n := new(big.Int).Sub(times(looks, coherence, coherence), times(1000000))
	// the quotient of Div is rounded down, as the divisor is above 0
	return max(0, int(n.Div(n, times(looks-1)).Int64()))
}

func TestP4_4SquareOf(t *testing.T) {
	for of, right := range map[[2]int]int{{707, 2}: 0, {800, 5}: 550000, {1000, 2}: 1000000, {1000, 10000}: 1000000, {1000, 77}: 1000000, {0, 2}: 0, {0, 10000}: 0, {1, 10000}: 0, {10, 10000}: 0, {11, 10000}: 21, {708, 2}: 2528, {578, 3}: 1126, {577, 3}: 0, {579, 3}: 2861} {
		n, e := fringe.SquareOf(of[0], of[1])
		want(t, "SquareOf", n, e, right, api.OK)
	}
	for c := range 1001 {
		for _, looks := range []int{2, 3, 4, 5, 7, 16, 99, 1000, 1001, 9999, 10000} {
			n, e := fringe.SquareOf(c, looks)
			want(t, "SquareOf", n, e, squareOf(c, looks), api.OK)
		}
	}
	for _, of := range [][2]int{{-1, 2}, {1001, 2}, {500, 1}, {500, 0}, {500, -5}, {500, 10001}, {math.MinInt, 2}, {math.MaxInt, 2}, {500, math.MinInt}, {500, math.MaxInt}, {1001, 1}} {
		n, e := fringe.SquareOf(of[0], of[1])
		want(t, "SquareOf out of range", n, e, 0, api.ErrRange)
	}
}

func TestP4_4Masked(t *testing.T) {
	m, q := phases(2, 1, -2, 5000, void, 100000000, -100000000), floats(2, 699, 700, 701, 1000, -700, minus)
	for least, right := range map[int]api.PhaseMap{
		700:     phases(2, void, -2, 5000, void, void, void),
		701:     phases(2, void, void, 5000, void, void, void),
		702:     phases(2, void, void, void, void, void, void),
		0:       phases(2, 1, -2, 5000, void, void, -100000000),
		1:       phases(2, 1, -2, 5000, void, void, void),
		-700:    m,
		-699:    phases(2, 1, -2, 5000, void, void, -100000000),
		-100000: m,
		100000:  phases(2, void, void, void, void, void, void),
	} {
		got, e := fringe.Masked(m, q, least)
		want(t, "Masked", got, e, right, api.OK)
	}
	got, e := fringe.Masked(phases(1, 3, 4), floats(1, 100000, 99999), 100000)
	want(t, "the greatest number", got, e, phases(1, 3, void), api.OK)
	got, e = fringe.Masked(phases(1, 3, 4), floats(1, -100000, -99999), -99999)
	want(t, "the least number", got, e, phases(1, void, 4), api.OK)
	r := numbers{63}
	for _, size := range sizes() {
		m, q := r.phases(size[0], size[1], api.MaxPhase, 9), r.floats(size[0], size[1], 20)
		right := phases(size[0], slices.Clone(m.Phases)...)
		for i, x := range q.Data {
			if x < 3 {
				right.Phases[i] = void
			}
		}
		got, e := fringe.Masked(m, q, 3)
		want(t, "Masked", got, e, right, api.OK)
	}
}

func TestP4_4MaskedErrors(t *testing.T) {
	for what, x := range wrongMaps() {
		for _, q := range []api.FloatMap{floats(1, 0, 0, 0), floats(1, 0, 0.5)} {
			got, e := fringe.Masked(x.x, q, 100001)
			want(t, what, got, e, api.PhaseMap{}, x.e)
		}
		if x.e == api.ErrRange {
			got, e := fringe.Masked(x.x, api.FloatMap{Rows: 1, Columns: 3}, 0)
			want(t, what+" ahead of another one", got, e, api.PhaseMap{}, x.e)
		}
	}
	for what, x := range wrongFloatMaps() {
		for _, least := range []int{0, 100001} {
			got, e := fringe.Masked(phases(1, 0), x.x, least)
			want(t, what, got, e, api.PhaseMap{}, x.e)
		}
	}
	for what, q := range map[string]api.FloatMap{"a row more": floats(2, 0, 0, 0, 0), "a column more": floats(1, 0, 0, 0), "as many": floats(2, 0, 0), "less": floats(1, 0)} {
		for _, least := range []int{0, 100001, -100001} {
			got, e := fringe.Masked(phases(1, 0, 0), q, least)
			want(t, what, got, e, api.PhaseMap{}, api.ErrClash)
		}
	}
	for _, least := range []int{100001, -100001, math.MaxInt, math.MinInt} {
		got, e := fringe.Masked(phases(1, 0), floats(1, 0), least)
		want(t, "a number out of range", got, e, api.PhaseMap{}, api.ErrRange)
	}
}
