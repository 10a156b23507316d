package match_test

import (
	"math"
	"math/big"
	"slices"
	"testing"

	"swath/api"
	"swath/match"
)

// rightRank looks at all threes of points.
func rightRank(l []api.MatchPoint) int {
	rank := 0
	for _, a := range l {
		rank = max(rank, 1)
		for _, b := range l {
			if a.Line != b.Line || a.Sample != b.Sample {
				rank = max(rank, 2)
			}
			for _, c := range l {
				if (b.Line-a.Line)*(c.Sample-a.Sample)-(b.Sample-a.Sample)*(c.Line-a.Line) != 0 {
					return 3
				}
			}
		}
	}
	return rank
}

// isLeast tells whether a shift misses points by a least sum of squares: then, and only then, what is missed has the sum
// 0, also times the lines, and times the samples.
func isLeast(f api.MatchAffine, l []api.MatchPoint) bool {
	var sums [2][3]*big.Rat
	for i := range sums {
		sums[i] = [3]*big.Rat{new(big.Rat), new(big.Rat), new(big.Rat)}
	}
	for _, x := range l {
		for i, by := range shiftOf(f, x.Line, x.Sample) {
			missed := plus(by, whole(-x.By[i]))
			for k, factor := range [3]int{1, x.Line, x.Sample} {
				sums[i][k] = plus(sums[i][k], times(missed, whole(factor)))
			}
		}
	}
	for _, s := range sums {
		for _, sum := range s {
			if sum.Sign() != 0 {
				return false
			}
		}
	}
	return true
}

// inLowestTerms tells whether no lesser denominator would do.
func inLowestTerms(f api.MatchAffine) bool {
	common := big.NewInt(int64(f.Den))
	for _, n := range append(f.Line[:], f.Sample[:]...) {
		common.GCD(nil, nil, common, new(big.Int).Abs(big.NewInt(int64(n))))
	}
	return f.Den > 0 && common.IsInt64() && common.Int64() == 1
}

func TestP3_3RankOf(t *testing.T) {
	for _, x := range []struct {
		l    []api.MatchPoint
		rank int
	}{
		{nil, 0},
		{[]api.MatchPoint{point(0, 0, 0, 0)}, 1},
		{[]api.MatchPoint{point(3, 4, 0, 0), point(3, 4, 1, 1)}, 1},
		{[]api.MatchPoint{point(3, 4, 0, 0), point(4, 4, 0, 0)}, 2},
		{[]api.MatchPoint{point(3, 4, 0, 0), point(3, 5, 0, 0)}, 2},
		{[]api.MatchPoint{point(0, 0, 0, 0), point(0, 0, 0, 0), point(2, 4, 0, 0), point(1, 2, 0, 0), point(3, 6, 0, 0)}, 2},
		{[]api.MatchPoint{point(0, 0, 0, 0), point(2, 4, 0, 0), point(3, 5, 0, 0)}, 3},
		{[]api.MatchPoint{point(0, 0, 0, 0), point(2, 0, 0, 0), point(3, 0, 0, 0), point(63, 1, 0, 0)}, 3},
		{[]api.MatchPoint{point(63, 63, 0, 0), point(0, 0, 0, 0), point(62, 61, 0, 0)}, 3},
		{examplePoints(), 3},
	} {
		rank, e := match.RankOf(x.l)
		want(t, "RankOf", rank, e, x.rank, api.OK)
	}
	r := numbers{9}
	for i := range 600 {
		l := r.points(i%6, 1+i%4)
		rank, e := match.RankOf(l)
		want(t, "RankOf", rank, e, rightRank(l), api.OK)
	}
	for what, x := range wrongPoints() {
		rank, e := match.RankOf(x.x)
		want(t, "RankOf: "+what, rank, e, 0, x.e)
	}
}

func TestP3_3Fit(t *testing.T) {
	f, e := match.Fit(examplePoints())
	want(t, "example 3", f, e, exampleAffine(), api.OK)
	f, e = match.Fit(append(examplePoints(), point(10, 10, 1, 3)))
	want(t, "example 4", f, e, affine(20, [3]int{0, 0, 2}, [3]int{15, 3, 1}), api.OK)
	f, e = match.Fit([]api.MatchPoint{point(0, 0, 0, 0), point(0, 1, 0, 0), point(1, 0, 0, 0)})
	want(t, "a shift of 0", f, e, moving(0, 0), api.OK)
	f, e = match.Fit([]api.MatchPoint{point(63, 63, -8, 8), point(0, 63, -8, 8), point(63, 0, -8, 8)})
	want(t, "a shift of whole numbers", f, e, moving(-8, 8), api.OK)
	r := numbers{10}
	for i := range 600 {
		l := r.points(i%31, 1+i%64)
		f, e := match.Fit(l)
		if rightRank(l) < 3 {
			want(t, "Fit of a lesser rank", f, e, api.MatchAffine{}, api.ErrRank)
			continue
		}
		if e != api.OK || match.CheckAffine(f) != api.OK || !isLeast(f, l) || !inLowestTerms(f) {
			t.Error("Fit:", l, f, e)
		}
	}
}

// The greatest numbers that there are: places in the corners, with offsets that lie as far from a plane as may be.
func TestP3_3FitOfCorners(t *testing.T) {
	corners := []api.MatchPoint{point(0, 0, 8, -8), point(0, 63, -8, 8), point(63, 0, -8, 8), point(63, 63, 8, -8)}
	for i := range 4 {
		l := slices.Concat(slices.Repeat(corners, 6), slices.Repeat(corners[i:i+1], 5), []api.MatchPoint{point(31, 32, 7, -7)})
		f, e := match.Fit(l)
		if e != api.OK || match.CheckAffine(f) != api.OK || !isLeast(f, l) || !inLowestTerms(f) {
			t.Error("Fit:", l, f, e)
		}
	}
}

func TestP3_3FitErrors(t *testing.T) {
	for what, x := range wrongPoints() {
		f, e := match.Fit(x.x)
		want(t, "Fit: "+what, f, e, api.MatchAffine{}, x.e)
	}
	f, e := match.Fit(nil)
	want(t, "Fit of nothing", f, e, api.MatchAffine{}, api.ErrRank)
	f, e = match.Fit([]api.MatchPoint{point(-1, 0, 0, 0)})
	want(t, "Fit of a wrong point of a lesser rank", f, e, api.MatchAffine{}, api.ErrRange)
}

func TestP3_3ShiftAt(t *testing.T) {
	by, e := match.ShiftAt(exampleAffine(), 5, 8)
	want(t, "example 3", by, e, [2]int{13, 24}, api.OK)
	for _, x := range []struct {
		den, number, right int
	}{{32, 17, 9}, {32, -17, -8}, {32, 16, 8}, {32, -15, -7}, {1, 3, 48}, {1, -3, -48}, {33, 17, 8}, {31, -17, -9}, {1000000000000, 31250000000, 1}, {1000000000000, -31250000000, 0}, {1000000000000, 31249999999, 0}} {
		by, e := match.ShiftAt(affine(x.den, [3]int{x.number}, [3]int{-x.number, 1, 1}), 0, 0)
		want(t, "a half upwards", by[0], e, x.right, api.OK)
		by, e = match.ShiftAt(affine(x.den, [3]int{5, 1, 1}, [3]int{x.number}), 0, 0)
		want(t, "a half upwards", by[1], e, x.right, api.OK)
	}
	r := numbers{11}
	for i := range 500 {
		f := r.affine(1+r.below(100000), 1000*(1+i%7*r.below(1000)))
		line, sample := r.below(64), r.below(64)
		right := shiftOf(f, line, sample)
		by, e := match.ShiftAt(f, line, sample)
		want(t, "ShiftAt", by, e, [2]int{nearest(times(right[0], whole(16))), nearest(times(right[1], whole(16)))}, api.OK)
	}
}

func TestP3_3ShiftAtOfGreatNumbers(t *testing.T) {
	const most = api.MaxMatchTerm
	for _, den := range []int{1, 2, 3, api.MaxMatchDen - 1, api.MaxMatchDen} {
		f := affine(den, [3]int{most, most, most}, [3]int{-most, -most, -most})
		right := shiftOf(f, 63, 63)
		by, e := match.ShiftAt(f, 63, 63)
		want(t, "the greatest shift", by, e, [2]int{nearest(times(right[0], whole(16))), nearest(times(right[1], whole(16)))}, api.OK)
	}
}

func TestP3_3ShiftAtErrors(t *testing.T) {
	for what, f := range wrongAffines() {
		by, e := match.ShiftAt(f, 0, 0)
		want(t, "ShiftAt: "+what, by, e, [2]int{}, api.ErrRange)
	}
	for _, n := range []int{-1, 64, math.MinInt, math.MaxInt} {
		by, e := match.ShiftAt(exampleAffine(), n, 0)
		want(t, "a wrong line", by, e, [2]int{}, api.ErrRange)
		by, e = match.ShiftAt(exampleAffine(), 0, n)
		want(t, "a wrong sample", by, e, [2]int{}, api.ErrRange)
	}
	by, e := match.ShiftAt(exampleAffine(), 63, 63)
	want(t, "the last place", by, e, [2]int{101, 117}, api.OK)
}

// rightWorst compares what is missed exactly.
func rightWorst(f api.MatchAffine, l []api.MatchPoint) int {
	worst, most := 0, whole(-1)
	for i, x := range l {
		for k, by := range shiftOf(f, x.Line, x.Sample) {
			missed := plus(by, whole(-x.By[k]))
			if missed.Abs(missed).Cmp(most) > 0 {
				worst, most = i, missed
			}
		}
	}
	return worst
}

func TestP3_3Worst(t *testing.T) {
	l := examplePoints()
	n, e := match.Worst(exampleAffine(), l)
	want(t, "nothing is missed", n, e, 0, api.OK)
	n, e = match.Worst(exampleAffine(), append(l, point(10, 10, 1, 3)))
	want(t, "one point is missed", n, e, 3, api.OK)
	for _, x := range []struct {
		l     []api.MatchPoint
		right int
	}{
		{[]api.MatchPoint{point(0, 0, 1, 0), point(0, 0, 0, 1), point(0, 0, -1, 0)}, 0},
		{[]api.MatchPoint{point(0, 0, 1, 1), point(0, 0, 0, -2), point(0, 0, 2, 2)}, 1},
		{[]api.MatchPoint{point(0, 0, 1, 1), point(0, 0, 3, 0), point(0, 0, 0, -4)}, 2},
		{[]api.MatchPoint{point(0, 0, 0, 0), point(0, 0, -3, 0), point(0, 0, 2, 2)}, 1},
	} {
		n, e := match.Worst(moving(0, 0), x.l)
		want(t, "the first one of the worst", n, e, x.right, api.OK)
	}
	n, e = match.Worst(affine(1000, [3]int{1001}, [3]int{}), []api.MatchPoint{point(0, 0, 1, 0), point(0, 0, 2, 0), point(0, 0, 0, 0)})
	want(t, "finer than a sixteenth", n, e, 2, api.OK)
	r := numbers{12}
	for i := range 400 {
		f := r.affine(1+i%50, 1+r.below(100))
		l := r.points(1+i%30, 64)
		if i%2 == 0 {
			f, l = moving(r.within(8), r.within(8)), r.points(1+i%30, 64)
		}
		n, e := match.Worst(f, l)
		want(t, "Worst", n, e, rightWorst(f, l), api.OK)
	}
	const most = api.MaxMatchTerm
	for _, den := range []int{1, api.MaxMatchDen} {
		f, l := affine(den, [3]int{most, most, most}, [3]int{-most, -most, -most}), r.points(30, 64)
		n, e := match.Worst(f, l)
		want(t, "Worst of great numbers", n, e, rightWorst(f, l), api.OK)
	}
}

func TestP3_3WorstErrors(t *testing.T) {
	for what, f := range wrongAffines() {
		for _, l := range [][]api.MatchPoint{nil, examplePoints(), make([]api.MatchPoint, 31)} {
			n, e := match.Worst(f, l)
			want(t, "Worst: "+what, n, e, 0, api.ErrRange)
		}
	}
	for what, x := range wrongPoints() {
		n, e := match.Worst(exampleAffine(), x.x)
		want(t, "Worst: "+what, n, e, 0, x.e)
	}
	n, e := match.Worst(exampleAffine(), nil)
	want(t, "Worst of nothing", n, e, 0, api.ErrShape)
}

// on returns points that lie on a shift exactly; there must be some.
func on(r *numbers, f api.MatchAffine, count int) []api.MatchPoint {
	var l []api.MatchPoint
	for len(l) < count {
		x := api.MatchPoint{Line: r.below(64), Sample: r.below(64), Score: r.below(1001)}
		fits := true
		for i, by := range shiftOf(f, x.Line, x.Sample) {
			fits = fits && by.IsInt() && by.Cmp(whole(8)) <= 0 && by.Cmp(whole(-8)) >= 0
			x.By[i] = down(by)
		}
		if fits {
			l = append(l, x)
		}
	}
	return l
}

// P3.8: a shift is found again from points on it, in any order, and a point more on it does not change it.
func TestP3_8Fits(t *testing.T) {
	r := numbers{13}
	for _, f := range []api.MatchAffine{moving(-3, 5), exampleAffine(), affine(7, [3]int{-7, 1, 0}, [3]int{14, 1, -1}), affine(9, [3]int{0, -1, 1}, [3]int{0, 0, 1})} {
		l := on(&r, f, 12)
		got, e := match.Fit(l)
		want(t, "points on a shift", got, e, f, api.OK)
		n, e := match.Worst(f, l)
		want(t, "all miss nothing", n, e, 0, api.OK)
		l = slices.Concat(l[:3], []api.MatchPoint{point(1, 1, 8, 8)}, l[3:])
		n, e = match.Worst(f, l)
		want(t, "one point is missed", n, e, 3, api.OK)
	}
	for range 100 {
		l := r.points(4+r.below(20), 30)
		f, e := match.Fit(l)
		if e == api.ErrRank {
			continue
		}
		slices.Reverse(l)
		got, g := match.Fit(l)
		want(t, "points backwards", got, g, f, e)
		r.mix(l)
		got, g = match.Fit(l)
		want(t, "mixed points", got, g, f, e)
	}
}

// P3.8: nor does a point more on the shift change it where others miss it, as much to one side as to the other one.
func TestP3_8FitsBesideOthers(t *testing.T) {
	r := numbers{14}
	for _, f := range []api.MatchAffine{moving(-3, 5), affine(3, [3]int{-3, 1, 0}, [3]int{6, 1, -1}), exampleAffine()} {
		var l []api.MatchPoint
		for i, x := range on(&r, f, 6) {
			a, b := x, x
			if max(x.By[i%2], -x.By[i%2]) < 8 {
				a.By[i%2]++
				b.By[i%2]--
			}
			l = append(l, a, b)
		}
		got, e := match.Fit(l)
		want(t, "points aside", got, e, f, api.OK)
		got, e = match.Fit(append(l, on(&r, f, 3)...))
		want(t, "points more on the shift", got, e, f, api.OK)
	}
}

// mix changes the order of points.
func (r *numbers) mix(l []api.MatchPoint) {
	for i := range l {
		k := r.below(i + 1)
		l[i], l[k] = l[k], l[i]
	}
}
