package series_test

import (
	"fmt"
	"math"
	"slices"
	"testing"

	"swath/api"
	"swath/series"
)

func TestP8_1CheckSeries(t *testing.T) {
	for what, s := range rightSeries() {
		if e := series.CheckSeries(s); e != api.OK {
			t.Errorf("%s: error %d", what, e)
		}
	}
	for what, x := range wrongSeries() {
		if e := series.CheckSeries(x.x); e != x.e {
			t.Errorf("%s: error %d, want %d", what, e, x.e)
		}
	}
}

func TestP8_1Names(t *testing.T) {
	for _, name := range []string{"a", "Z", "a-", "z9", "A0-", "abcdefghijkl", "a-----------", "series", "epoch"} {
		s := example()
		s.Name = name
		if e := series.CheckSeries(s); e != api.OK {
			t.Errorf("%q: error %d", name, e)
		}
	}
	for c := range 256 {
		letter := c >= 'a' && c <= 'z' || c >= 'A' && c <= 'Z'
		for name, is := range map[string]bool{string([]byte{byte(c)}): letter, string([]byte{'a', byte(c)}): letter || c >= '0' && c <= '9' || c == '-'} {
			s := example()
			s.Name = name
			if e := series.CheckSeries(s); (e == api.OK) != is || !is && e != api.ErrName {
				t.Errorf("%q: error %d", name, e)
			}
		}
	}
}

// seriesErrors calls each function that takes a series, with further arguments that are wrong, and returns its error; no
// other result may be beside one.
func seriesErrors(t *testing.T, what string, s api.SeriesPoint, odd int) map[string]api.Errno {
	t.Helper()
	out := map[string]api.Errno{"CheckSeries": series.CheckSeries(s)}
	left, right, e := series.NormalOf(s)
	zeroBeside(t, what+", NormalOf", left, e)
	zeroBeside(t, what+", NormalOf", right, e)
	out["NormalOf"] = e
	rank, open, e := series.RankOf(s)
	zeroBeside(t, what+", RankOf", rank, e)
	zeroBeside(t, what+", RankOf", open, e)
	out["RankOf"] = e
	fit, e := series.Solve(s)
	zeroBeside(t, what+", Solve", fit, e)
	out["Solve"] = e
	only, e := series.SolveOnly(s, odd)
	zeroBeside(t, what+", SolveOnly", only, e)
	out["SolveOnly"] = e
	missed, e := series.Residuals(s)
	zeroBeside(t, what+", Residuals", missed, e)
	out["Residuals"] = e
	for _, further := range [][2]int{{odd, odd}, {odd, 0}, {5, odd}} {
		predicted, e := series.Predicted(s, further[0], further[1])
		zeroBeside(t, what+", Predicted", predicted, e)
		out[fmt.Sprint("Predicted", further)] = e
	}
	for i := range 3 {
		var x [3]int
		x[i] = odd
		sum, e := series.SquaresOf(s, x)
		zeroBeside(t, what+", SquaresOf", sum, e)
		out[fmt.Sprint("SquaresOf", x)] = e
	}
	datum, e := series.Datum(s, odd)
	zeroBeside(t, what+", Datum", datum, e)
	out["Datum"] = e
	velocity, e := series.VelocityRange(s)
	zeroBeside(t, what+", VelocityRange", velocity, e)
	out["VelocityRange"] = e
	text, e := series.Print(s)
	zeroBeside(t, what+", Print", text, e)
	out["Print"] = e
	return out
}

// The error of a series comes ahead of all others, whatever the further arguments are.
func TestP8_1ErrorsOfSeries(t *testing.T) {
	for what, x := range wrongSeries() {
		for _, odd := range []int{-7, math.MinInt, math.MaxInt} {
			for name, e := range seriesErrors(t, what, x.x, odd) {
				if e != x.e {
					t.Errorf("%s: %s has the error %d, want %d", what, name, e, x.e)
				}
			}
		}
	}
}

func TestP8_1NormalOf(t *testing.T) {
	left, right, e := series.NormalOf(example())
	want(t, "the example", left, e, [9]int{500, 100, 30, 100, 100, 10, 30, 10, 3}, api.OK)
	want(t, "the example", right, e, [3]int{1100, 300, 70}, api.OK)
	left, right, e = series.NormalOf(dates(77, -3, 5, 9))
	want(t, "one date", left, e, [9]int{0, 0, 0, 0, 9, -3, 0, -3, 1}, api.OK)
	want(t, "one date", right, e, [3]int{0, -15, 5}, api.OK)
	r := numbers{1}
	for _, s := range r.anySeries(400) {
		var sums [9]int
		var sides [3]int
		for _, date := range s.Epochs {
			factors := []int{date.Day - s.Epochs[0].Day, date.Base, 1}
			for i, a := range factors {
				for j, b := range factors {
					sums[3*i+j] += a * b
				}
				sides[i] += a * date.Phase
			}
		}
		left, right, e := series.NormalOf(s)
		want(t, fmt.Sprint("NormalOf ", s), left, e, sums, api.OK)
		want(t, fmt.Sprint("NormalOf ", s), right, e, sides, api.OK)
	}
}

func TestP8_1RankOf(t *testing.T) {
	for _, x := range []struct {
		what string
		s    api.SeriesPoint
		rank int
		open []int
	}{
		{"the example", example(), 3, nil},
		{"no bases", dates(0, 0, 0, 0, 10, 0, 30, 0, 20, 0, 40, 0), 2, []int{api.SeriesHeight}},
		{"bases like days", dates(0, 0, 0, 0, 10, 10, 30, 0, 20, 20, 40, 0), 2, []int{api.SeriesVelocity, api.SeriesHeight}},
		{"bases like days and more", dates(0, 5, 0, 0, 10, 15, 30, 0, 20, 25, 40, 0), 2, []int{0, 1, 2}},
		{"one base", dates(0, 5, 0, 0, 10, 5, 30, 0, 20, 5, 40, 0), 2, []int{api.SeriesHeight, api.SeriesConstant}},
		{"one date", dates(9, 0, 7, 0), 1, []int{api.SeriesVelocity, api.SeriesHeight}},
		{"one date with a base", dates(9, -1, 7, 0), 1, []int{0, 1, 2}},
		{"two dates", dates(9, 0, 7, 0, 12, 0, 3, 0), 2, []int{api.SeriesHeight}},
		{"two dates with a base", dates(9, 0, 7, 0, 12, 1, 3, 0), 2, []int{api.SeriesVelocity, api.SeriesHeight}},
		{"two dates with bases", dates(9, 3, 7, 0, 12, 3, 3, 0), 2, []int{api.SeriesHeight, api.SeriesConstant}},
		{"two dates with two bases", dates(9, 3, 7, 0, 12, 1, 3, 0), 2, []int{0, 1, 2}},
		{"three dates, nearly on a line", dates(0, -100, 0, 0, 200, 0, 0, 0, 399, 100, 0, 0), 3, nil},
		{"three dates on a line", dates(0, -100, 0, 0, 200, 0, 0, 0, 400, 100, 0, 0), 2, []int{0, 1, 2}},
		{"a base at the last of 20 dates", changed(rightSeries()["20 dates"], 0, func(*api.SeriesEpoch) {}), 3, nil},
	} {
		rank, open, e := series.RankOf(x.s)
		want(t, x.what, rank, e, x.rank, api.OK)
		want(t, x.what, open, e, x.open, api.OK)
	}
}

// A parameter is the same in all fits just if a row with nothing but its factor does not make the rank greater.
func TestP8_1RankOfAny(t *testing.T) {
	r := numbers{2}
	seen := map[string]bool{}
	for _, s := range r.anySeries(600) {
		l := tableOf(s)
		var right []int
		for parameter := range 3 {
			only := []int{0, 0, 0}
			only[parameter] = 1
			if append(slices.Clone(l), only).rank() > l.rank() {
				right = append(right, parameter)
			}
		}
		rank, open, e := series.RankOf(s)
		want(t, fmt.Sprint("RankOf ", s), rank, e, l.rank(), api.OK)
		want(t, fmt.Sprint("RankOf ", s), open, e, right, api.OK)
		seen[fmt.Sprint(rank, open)] = true
	}
	for _, x := range []string{"1 [0 1]", "1 [0 1 2]", "2 [1]", "2 [0 1]", "2 [1 2]", "2 [0 1 2]", "3 []"} {
		if !seen[x] {
			t.Error("this rank did not occur:", x)
		}
	}
}

// A fit with another value of a parameter that is not determined has the same sum of squares.
func TestP8_1OpenFits(t *testing.T) {
	for _, x := range []struct {
		s    api.SeriesPoint
		a, b [3]int
	}{
		{dates(0, 0, 5, 0, 10, 0, 15, 0, 20, 0, 26, 0), [3]int{1, 0, 5}, [3]int{1, 77, 5}},
		{dates(0, 5, 5, 0, 10, 5, 15, 0, 20, 5, 26, 0), [3]int{1, 0, 5}, [3]int{1, 1, 0}},
		{dates(3, 0, 5, 0, 4, 2, 7, 0, 6, 6, 12, 0), [3]int{2, 0, 5}, [3]int{0, 1, 5}},
	} {
		one, e := series.SquaresOf(x.s, x.a)
		two, f := series.SquaresOf(x.s, x.b)
		want(t, "SquaresOf", one, e, two, f)
	}
}

func TestP8_1Datum(t *testing.T) {
	s, e := series.Datum(example(), 1)
	want(t, "example 5", s, e, dates(0, 0, -30, 0, 10, 10, 0, 0, 20, 0, 10, 0), api.OK)
	s, e = series.Datum(example(), 0)
	want(t, "the phase 0", s, e, example(), api.OK)
	s, e = series.Datum(dates(3, 4, 5, 6), 0)
	want(t, "one date", s, e, dates(3, 4, 0, 0), api.OK)
	three := dates(3, 4, 5, 6, 7, -8, -9, 10, 11, 12, 13, 14)
	three.Name = "Q-3"
	for epoch, right := range []api.SeriesPoint{
		dates(3, 4, 0, 0, 7, -8, -14, 16, 11, 12, 8, 20),
		dates(3, 4, 14, 16, 7, -8, 0, 0, 11, 12, 22, 24),
		dates(3, 4, -8, 20, 7, -8, -22, 24, 11, 12, 0, 0),
	} {
		right.Name = "Q-3"
		s, e := series.Datum(three, epoch)
		want(t, "three dates", s, e, right, api.OK)
	}
	s, e = series.Datum(dates(3, 4, 0, 0, 7, -8, -9, 10), 0)
	want(t, "the phase 0 and the margin 0", s, e, dates(3, 4, 0, 0, 7, -8, -9, 10), api.OK)
}

func TestP8_1DatumErrors(t *testing.T) {
	for _, epoch := range []int{-1, 3, 4, math.MinInt, math.MaxInt} {
		s, e := series.Datum(example(), epoch)
		wantError(t, "a date that is not there", s, e, api.ErrMissing)
	}
	for _, x := range []struct {
		what string
		s    api.SeriesPoint
		at   int
		e    api.Errno
	}{
		{"the greatest phase", dates(0, 0, 15000, 0, 1, 0, -1000, 0), 1, api.OK},
		{"a greater phase", dates(0, 0, 15001, 0, 1, 0, -1000, 0), 1, api.ErrLarge},
		{"the least phase", dates(0, 0, 1000, 0, 1, 0, -15000, 0), 0, api.OK},
		{"a lesser phase", dates(0, 0, 1000, 0, 1, 0, -15001, 0), 0, api.ErrLarge},
		{"phases far apart", dates(0, 0, 16000, 0, 1, 0, -16000, 0), 0, api.ErrLarge},
		{"the greatest margin", dates(0, 0, 0, 2000, 1, 0, 0, 48), 1, api.OK},
		{"a greater margin", dates(0, 0, 0, 2000, 1, 0, 0, 49), 1, api.ErrLarge},
		{"a greater margin, the other way", dates(0, 0, 0, 2000, 1, 0, 0, 49), 0, api.ErrLarge},
		{"its own margin alone", dates(0, 0, 16000, 2048, 1, 0, 0, 0), 0, api.OK},
		{"its own margin, and none", dates(0, 0, 16000, 2048, 1, 0, 0, 1), 0, api.ErrLarge},
		{"a margin at the last date", dates(0, 0, 0, 0, 1, 0, 0, 2000, 2, 0, 0, 2048), 1, api.ErrLarge},
	} {
		s, e := series.Datum(x.s, x.at)
		wantError(t, x.what, s, e, x.e)
		if e == api.OK && (len(s.Epochs) != 2 || s.Epochs[x.at].Phase != 0 || s.Epochs[x.at].Margin != 0) {
			t.Errorf("%s: %v", x.what, s)
		}
	}
}

// P8.1: a datum changes phases and margins as the chapter says, for any date.
func TestP8_1DatumOfAny(t *testing.T) {
	r, seen := numbers{3}, counter{}
	for _, s := range r.anySeries(200) {
		for epoch, datum := range s.Epochs {
			right := dates()
			for i, date := range s.Epochs {
				date.Phase -= datum.Phase
				date.Margin += datum.Margin
				if i == epoch {
					date.Margin = 0
				}
				right.Epochs = append(right.Epochs, date)
			}
			right.Name = s.Name
			rightError := api.OK
			if series.CheckSeries(right) != api.OK {
				right, rightError = api.SeriesPoint{}, api.ErrLarge
			}
			got, e := series.Datum(s, epoch)
			want(t, fmt.Sprint("Datum ", epoch, s), got, e, right, rightError)
			seen[e]++
		}
	}
	seen.saw(t, api.OK, api.ErrLarge)
}
