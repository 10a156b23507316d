package match_test

import (
	"cmp"
	"math"
	"math/big"
	"slices"
	"testing"

	"swath/api"
	"swath/match"
)

// sampleOf returns the parts of a sample.
func sampleOf(im api.RadarImage, line, sample int) [2]int {
	z := im.Data[line*im.Samples+sample]
	return [2]int{int(real(z)), int(imag(z))}
}

// rightScore sums with big numbers what the chapter defines as the score.
func rightScore(p api.MatchPair, w api.MatchWindow, by [2]int) (*big.Rat, api.Errno) {
	var sums [4]*big.Int // both parts of P, E and F
	for i := range sums {
		sums[i] = new(big.Int)
	}
	add := func(i int, n int) { sums[i].Add(sums[i], big.NewInt(int64(n))) }
	for l := range w.Lines {
		for s := range w.Samples {
			line, sample := w.Line+by[0]+l, w.Sample+by[1]+s
			if line < 0 || line >= p.Second.Lines || sample < 0 || sample >= p.Second.Samples {
				return nil, api.ErrBreak
			}
			a, b := sampleOf(p.First, w.Line+l, w.Sample+s), sampleOf(p.Second, line, sample)
			add(0, a[0]*b[0]+a[1]*b[1])
			add(1, a[1]*b[0]-a[0]*b[1])
			add(2, a[0]*a[0]+a[1]*a[1])
			add(3, b[0]*b[0]+b[1]*b[1])
		}
	}
	if sums[2].Sign() == 0 || sums[3].Sign() == 0 {
		return nil, api.ErrZero
	}
	for i, n := range sums[:2] {
		sums[i] = n.Mul(n, n)
	}
	return new(big.Rat).SetFrac(sums[0].Add(sums[0], sums[1]), sums[2].Mul(sums[2], sums[3])), api.OK
}

// A found offset has its score.
type found struct {
	by    [2]int
	score *big.Rat
}

func (a found) sizes() int { return max(a.by[0], -a.by[0]) + max(a.by[1], -a.by[1]) }

// rightBest sorts all offsets that have a score.
func rightBest(p api.MatchPair, w api.MatchWindow, reach int) (found, bool) {
	var all []found
	for lines := -reach; lines <= reach; lines++ {
		for samples := -reach; samples <= reach; samples++ {
			by := [2]int{lines, samples}
			if score, e := rightScore(p, w, by); e == api.OK {
				all = append(all, found{by, score})
			}
		}
	}
	if len(all) == 0 {
		return found{}, false
	}
	slices.SortFunc(all, func(a, b found) int {
		return cmp.Or(b.score.Cmp(a.score), cmp.Compare(a.sizes(), b.sizes()), slices.Compare(a.by[:], b.by[:]))
	})
	return all[0], true
}

func inTerms(x *big.Rat) [2]int { return [2]int{int(x.Num().Int64()), int(x.Denom().Int64())} }

// pairs returns pairs of random images: many of small numbers, in which scores are equal or missing, and some of great ones.
func pairs() []api.MatchPair {
	r := numbers{3}
	out := []api.MatchPair{pair(empty(4, 4), empty(4, 4)), pair(r.image(9, 9, 1), empty(9, 9))}
	for i := range 24 {
		most := []int{1, 1, 2, api.MaxSample}[i%4]
		p := pair(r.image(1+r.below(11), 1+r.below(11), most), r.image(1+r.below(11), 1+r.below(11), most))
		clear(p.First.Data[:r.below(len(p.First.Data))])
		clear(p.Second.Data[:r.below(len(p.Second.Data))])
		out = append(out, p)
	}
	great := r.image(12, 12, api.MaxSample)
	near := api.RadarImage{Lines: 12, Samples: 12, Data: slices.Clone(great.Data)}
	near.Data[40] += 1
	full := image(12, slices.Repeat([]complex64{2047 - 2047i}, 144)...)
	almost := image(12, slices.Repeat([]complex64{-2047 + 2047i, 2047 + 2046i}, 72)...)
	return append(out, pair(great, near), pair(full, full), pair(full, almost), pair(almost, great))
}

// windowsIn returns windows of all kinds of an image.
func windowsIn(r *numbers, im api.RadarImage) []api.MatchWindow {
	var out []api.MatchWindow
	for range 6 {
		lines, samples := 1+r.below(min(8, im.Lines)), 1+r.below(min(8, im.Samples))
		out = append(out, window(r.below(im.Lines-lines+1), r.below(im.Samples-samples+1), lines, samples))
	}
	return out
}

func TestP3_1Examples(t *testing.T) {
	p := pair(row(1, 2, 3, 4), row(0, 1, 2, 3))
	w := window(0, 1, 1, 2)
	score, e := match.Score(p, w, [2]int{})
	want(t, "example 1", score, e, [2]int{64, 65}, api.OK)
	score, e = match.Score(p, w, [2]int{0, 1})
	want(t, "example 1, a sample later", score, e, [2]int{1, 1}, api.OK)
	by, score, e := match.BestOffset(p, w, 1)
	want(t, "example 1, the best", by, e, [2]int{0, 1}, api.OK)
	want(t, "example 1, its score", score, e, [2]int{1, 1}, api.OK)
	by, score, e = match.BestOffset(p, w, 0)
	want(t, "the reach 0", by, e, [2]int{}, api.OK)
	want(t, "the reach 0", score, e, [2]int{64, 65}, api.OK)
	score, e = match.Score(pair(row(1, 0), row(1i, 0)), window(0, 0, 1, 2), [2]int{})
	want(t, "example 2", score, e, [2]int{1, 1}, api.OK)
	score, e = match.Score(pair(row(1, 0), row(0, 1)), window(0, 0, 1, 2), [2]int{})
	want(t, "a score of 0", score, e, [2]int{0, 1}, api.OK)
	score, e = match.Score(pair(row(1, 1i), row(1, 1i)), window(0, 0, 1, 2), [2]int{})
	want(t, "the conjugate counts", score, e, [2]int{1, 1}, api.OK)
	score, e = match.Score(pair(row(1, 1i), row(1, -1i)), window(0, 0, 1, 2), [2]int{})
	want(t, "the conjugate image", score, e, [2]int{0, 1}, api.OK)
}

func TestP3_1Cut(t *testing.T) {
	im := image(3, 1, 2, 3, 4i, 5, 6, 7, 8, 9-9i)
	got, e := match.Cut(im, window(1, 1, 2, 2))
	want(t, "Cut", got, e, image(2, 5, 6, 8, 9-9i), api.OK)
	got, e = match.Cut(im, window(0, 0, 3, 3))
	want(t, "Cut all", got, e, im, api.OK)
	got, e = match.Cut(im, window(0, 2, 3, 1))
	want(t, "Cut a column", got, e, image(3, 3, 6, 9-9i), api.OK)
	for what, x := range wrongWindows() {
		got, e := match.Cut(empty(5, 6), x.x)
		want(t, "Cut: "+what, got, e, api.RadarImage{}, x.e)
	}
	for what, x := range wrongImages() {
		got, e := match.Cut(x.x, window(0, 0, 1, 1))
		want(t, "Cut: "+what, got, e, api.RadarImage{}, x.e)
		got, e = match.Cut(x.x, window(9, 9, 1, 1))
		want(t, "Cut, the image first: "+what, got, e, api.RadarImage{}, x.e)
	}
}

func TestP3_1Sums(t *testing.T) {
	r := numbers{4}
	for _, p := range pairs() {
		for _, w := range windowsIn(&r, p.First) {
			for range 12 {
				by := [2]int{r.within(5), r.within(5)}
				score, e := match.Score(p, w, by)
				if right, f := rightScore(p, w, by); f == api.OK {
					want(t, "Score", score, e, inTerms(right), f)
				} else {
					want(t, "Score", score, e, [2]int{}, f)
				}
			}
			for reach := range 5 {
				by, score, e := match.BestOffset(p, w, reach)
				right, ok := rightBest(p, w, reach)
				if !ok {
					want(t, "BestOffset", [2][2]int{by, score}, e, [2][2]int{}, api.ErrNone)
					continue
				}
				want(t, "BestOffset", [2][2]int{by, score}, e, [2][2]int{right.by, inTerms(right.score)}, api.OK)
			}
		}
	}
}

// Of equal scores the least sum of sizes decides, and then the first offset.
func TestP3_1EqualScores(t *testing.T) {
	for _, x := range []struct {
		second api.RadarImage
		right  [2]int
	}{
		{image(3, 1, 1, 1, 1, 1, 1, 1, 1, 1), [2]int{0, 0}},
		{image(3, 1, 1, 1, 1, 0, 1, 1, 1, 1), [2]int{-1, 0}},
		{image(3, 1, 0, 1, 1, 0, 1, 1, 1, 1), [2]int{0, -1}},
		{image(3, 1, 0, 1, 0, 0, 1, 1, 1, 1), [2]int{0, 1}},
		{image(3, 1, 0, 1, 0, 0, 0, 1, 1, 1), [2]int{1, 0}},
		{image(3, 1, 0, 1, 0, 0, 0, 1, 0, 1), [2]int{-1, -1}},
		{image(3, 0, 0, 1, 0, 0, 0, 1, 0, 1), [2]int{-1, 1}},
		{image(3, 0, 0, 0, 0, 0, 0, 1, 0, 1), [2]int{1, -1}},
		{image(3, 0, 0, 0, 0, 0, 0, 0, 0, 1), [2]int{1, 1}},
	} {
		by, score, e := match.BestOffset(pair(empty(3, 3), x.second), window(1, 1, 1, 1), 1)
		want(t, "a window of 0", [2][2]int{by, score}, e, [2][2]int{}, api.ErrNone)
		by, score, e = match.BestOffset(pair(image(3, 0, 0, 0, 0, 1i, 0, 0, 0, 0), x.second), window(1, 1, 1, 1), 1)
		want(t, "BestOffset", by, e, x.right, api.OK)
		want(t, "its score", score, e, [2]int{1, 1}, api.OK)
	}
}

func TestP3_1ScoreErrors(t *testing.T) {
	first, second := image(5, slices.Repeat([]complex64{1}, 30)...), image(3, slices.Repeat([]complex64{1i}, 12)...)
	for what, x := range wrongWindows() {
		score, e := match.Score(pair(first, first), x.x, [2]int{9, 9})
		want(t, "Score: "+what, score, e, [2]int{}, x.e)
		by, score, e := match.BestOffset(pair(first, first), x.x, -1)
		want(t, "BestOffset: "+what, [2][2]int{by, score}, e, [2][2]int{}, x.e)
	}
	for what, x := range wrongPairs() {
		score, e := match.Score(x.x, window(9, 9, 1, 1), [2]int{9, 9})
		want(t, "Score: "+what, score, e, [2]int{}, x.e)
		by, score, e := match.BestOffset(x.x, window(9, 9, 1, 1), 9)
		want(t, "BestOffset: "+what, [2][2]int{by, score}, e, [2][2]int{}, x.e)
	}
	for _, by := range [][2]int{{0, 3}, {1, 0}, {-3, 0}, {0, -2}, {math.MaxInt, 0}, {0, math.MaxInt}, {math.MinInt, 0}, {0, math.MinInt}} {
		score, e := match.Score(pair(first, second), window(2, 1, 1, 1), by)
		want(t, "an offset outside", score, e, [2]int{}, api.ErrBreak)
		score, e = match.Score(pair(empty(5, 6), second), window(2, 1, 1, 1), by)
		want(t, "an offset outside of a window of 0", score, e, [2]int{}, api.ErrBreak)
	}
	for _, p := range []api.MatchPair{pair(empty(2, 2), second), pair(first, empty(2, 2)), pair(empty(2, 2), empty(2, 2)), pair(row(1, minusZero64), row(0, 1))} {
		score, e := match.Score(p, window(0, p.First.Samples-1, 1, 1), [2]int{0, 1 - p.First.Samples})
		want(t, "windows of 0", score, e, [2]int{}, api.ErrZero)
	}
	for _, reach := range []int{-1, 5, math.MinInt, math.MaxInt} {
		by, score, e := match.BestOffset(pair(empty(5, 5), second), window(0, 0, 1, 1), reach)
		want(t, "a wrong reach", [2][2]int{by, score}, e, [2][2]int{}, api.ErrRange)
	}
	by, score, e := match.BestOffset(pair(first, row(1)), window(4, 5, 1, 1), 3)
	want(t, "a second image out of reach", [2][2]int{by, score}, e, [2][2]int{}, api.ErrNone)
	by, score, e = match.BestOffset(pair(first, row(1)), window(0, 0, 2, 1), 4)
	want(t, "a second image that is less than the window", [2][2]int{by, score}, e, [2][2]int{}, api.ErrNone)
}

func multiplied(im api.RadarImage, z complex64) api.RadarImage {
	out := api.RadarImage{Lines: im.Lines, Samples: im.Samples}
	for _, x := range im.Data {
		out.Data = append(out.Data, x*z)
	}
	return out
}

// P3.7: scores are at most 1, that of a window with itself is 1, factors do not change them, and a greater reach is no worse.
func TestP3_7Scores(t *testing.T) {
	r := numbers{5}
	for i := range 40 {
		p := pair(r.image(7, 8, 1+40*(i%2)), r.image(8, 7, 1+40*(i%2)))
		for _, w := range windowsIn(&r, p.First) {
			by := [2]int{r.within(2), r.within(2)}
			score, e := match.Score(p, w, by)
			if e == api.OK && (score[0] < 0 || score[0] > score[1]) {
				t.Error("a score beyond 1:", score)
			}
			more, f := match.Score(pair(multiplied(p.First, 3-4i), multiplied(p.Second, -5+2i)), w, by)
			want(t, "the score of multiplied images", more, f, score, e)
			if own, e := match.Score(pair(p.First, p.First), w, [2]int{}); e != api.ErrZero {
				want(t, "the score with itself", own, e, [2]int{1, 1}, api.OK)
			}
			last := whole(-1)
			for reach := range 5 {
				_, score, e := match.BestOffset(p, w, reach)
				if e != api.OK {
					continue
				}
				next := part(score[0], score[1])
				if next.Cmp(last) < 0 {
					t.Error("a greater reach is worse:", next, last)
				}
				last = next
			}
		}
	}
}
