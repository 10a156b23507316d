package series_test

import (
	"fmt"
	"math"
	"math/big"
	"slices"
	"testing"

	"swath/api"
	"swath/series"
)

func TestP8_2Solve(t *testing.T) {
	f, e := series.Solve(example())
	want(t, "example 1", f, e, [3]api.Frac{{Num: 2, Den: 1}, {Num: 1, Den: 1}, {Num: 0, Den: 1}}, api.OK)
	f, e = series.Solve(changed(example(), 2, func(date *api.SeriesEpoch) { date.Phase = 41 }))
	want(t, "example 2", f, e, [3]api.Frac{{Num: 41, Den: 20}, {Num: 19, Den: 20}, {Num: 0, Den: 1}}, api.OK)
	f, e = series.Solve(dates(0, 0, 0, 0, 10, 10, -30, 0, 20, 0, -41, 0))
	want(t, "below 0", f, e, [3]api.Frac{{Num: -41, Den: 20}, {Num: -19, Den: 20}, {Num: 0, Den: 1}}, api.OK)
	f, e = series.Solve(dates(5, 1, 7, 0, 15, 2, 7, 0, 25, 4, 7, 0, 30, 0, 7, 3))
	want(t, "nothing moves", f, e, [3]api.Frac{{Num: 0, Den: 1}, {Num: 0, Den: 1}, {Num: 7, Den: 1}}, api.OK)
	f, e = series.Solve(dates(0, 0, 1, 0, 1, 0, 0, 0, 2, 0, 2, 0, 3, 1, 9, 0))
	want(t, "residuals", f, e, [3]api.Frac{{Num: 1, Den: 2}, {Num: 7, Den: 1}, {Num: 1, Den: 2}}, api.OK)
}

func TestP8_2SolveErrors(t *testing.T) {
	for what, s := range map[string]api.SeriesPoint{
		"one date":        dates(0, 0, 0, 0),
		"two dates":       dates(0, 0, 0, 0, 1, 5, 0, 0),
		"no bases":        dates(0, 0, 0, 0, 10, 0, 30, 0, 20, 0, 40, 0),
		"one base":        dates(0, 9, 0, 0, 10, 9, 30, 0, 20, 9, 40, 0),
		"bases like days": dates(0, 0, 0, 0, 10, 10, 30, 0, 20, 20, 40, 0),
		"and more":        dates(0, 7, 0, 0, 10, 2, 30, 0, 20, -3, 40, 0),
		"great phases":    dates(0, 7, 16000, 0, 10, 2, -16000, 0, 20, -3, 16000, 0),
	} {
		f, e := series.Solve(s)
		wantError(t, "Solve: "+what, f, e, api.ErrRank)
		l, e := series.Residuals(s)
		wantError(t, "Residuals: "+what, l, e, api.ErrRank)
		x, e := series.Predicted(s, 0, 0)
		wantError(t, "Predicted: "+what, x, e, api.ErrRank)
		v, e := series.VelocityRange(s)
		wantError(t, "VelocityRange: "+what, v, e, api.ErrRank)
	}
}

func TestP8_2SolveAny(t *testing.T) {
	r, seen := numbers{4}, counter{}
	for _, s := range r.anySeries(1000) {
		right, rightError := three(tableOf(s).fit(phasesOf(s)))
		f, e := series.Solve(s)
		want(t, fmt.Sprint("Solve ", s), f, e, right, rightError)
		seen[e]++
	}
	seen.saw(t, api.OK, api.ErrRank, api.ErrLarge)
}

func TestP8_2SolveOnly(t *testing.T) {
	f, e := series.SolveOnly(example(), api.SeriesVelocity)
	want(t, "example 4", f, e, [2]api.Frac{{Num: 2, Den: 1}, {Num: 10, Den: 3}}, api.OK)
	f, e = series.SolveOnly(example(), api.SeriesHeight)
	want(t, "the height", f, e, [2]api.Frac{{Num: 1, Den: 1}, {Num: 20, Den: 1}}, api.OK)
	f, e = series.SolveOnly(dates(7, 5, 3, 0, 10, 5, 4, 0), api.SeriesVelocity)
	want(t, "two dates", f, e, [2]api.Frac{{Num: 1, Den: 3}, {Num: 3, Den: 1}}, api.OK)
	f, e = series.SolveOnly(dates(7, 5, 3, 0, 10, -1, 4, 0), api.SeriesHeight)
	want(t, "two bases", f, e, [2]api.Frac{{Num: -1, Den: 6}, {Num: 23, Den: 6}}, api.OK)
	f, e = series.SolveOnly(dates(0, 0, 0, 0, 10, 10, 30, 0, 20, 20, 40, 0), api.SeriesVelocity)
	want(t, "bases like days", f, e, [2]api.Frac{{Num: 2, Den: 1}, {Num: 10, Den: 3}}, api.OK)
}

func TestP8_2SolveOnlyErrors(t *testing.T) {
	for _, parameter := range []int{api.SeriesConstant, -1, 3, 4, math.MinInt, math.MaxInt} {
		for _, s := range []api.SeriesPoint{example(), dates(0, 0, 0, 0)} {
			f, e := series.SolveOnly(s, parameter)
			wantError(t, "another parameter", f, e, api.ErrKind)
		}
	}
	for parameter := range 2 {
		f, e := series.SolveOnly(dates(9, 5, 3, 0), parameter)
		wantError(t, "one date", f, e, api.ErrRank)
	}
	f, e := series.SolveOnly(dates(9, 5, 3, 0, 10, 5, 4, 0, 11, 5, 9, 0), api.SeriesHeight)
	wantError(t, "one base", f, e, api.ErrRank)
	f, e = series.SolveOnly(dates(9, 0, 3, 0, 10, 0, 4, 0, 11, 0, 9, 0), api.SeriesHeight)
	wantError(t, "no base", f, e, api.ErrRank)
}

func TestP8_2SolveOnlyAny(t *testing.T) {
	r := numbers{5}
	for parameter := range 2 {
		seen := counter{}
		for _, s := range r.anySeries(800) {
			right, rightError := two(tableOf(s).columns(parameter, 2).fit(phasesOf(s)))
			f, e := series.SolveOnly(s, parameter)
			want(t, fmt.Sprint("SolveOnly ", parameter, s), f, e, right, rightError)
			seen[e]++
		}
		seen.saw(t, api.OK, api.ErrRank, api.ErrLarge)
	}
}

func TestP8_2Residuals(t *testing.T) {
	l, e := series.Residuals(example())
	want(t, "the example", l, e, []api.Frac{{Num: 0, Den: 1}, {Num: 0, Den: 1}, {Num: 0, Den: 1}}, api.OK)
	l, e = series.Residuals(dates(0, 0, 1, 0, 1, 0, 0, 0, 2, 0, 2, 0, 3, 1, 9, 0))
	want(t, "residuals", l, e, []api.Frac{{Num: 1, Den: 2}, {Num: -1, Den: 1}, {Num: 1, Den: 2}, {Num: 0, Den: 1}}, api.OK)
}

func TestP8_2ResidualsAny(t *testing.T) {
	r, seen := numbers{6}, counter{}
	for _, s := range r.anySeries(1000) {
		l, phases := tableOf(s), phasesOf(s)
		var right []api.Frac
		rightError := api.ErrRank
		if f := l.fit(phases); f != nil {
			right, rightError = fractions(l.missed(f, phases)...)
		}
		missed, e := series.Residuals(s)
		want(t, fmt.Sprint("Residuals ", s), missed, e, right, rightError)
		seen[e]++
	}
	seen.saw(t, api.OK, api.ErrRank, api.ErrLarge)
}

func TestP8_2Predicted(t *testing.T) {
	later := dates(500, 0, 0, 0, 510, 10, 30, 0, 520, 0, 41, 0)
	for _, x := range []struct {
		day, base int
		right     api.Frac
		e         api.Errno
	}{
		{500, 0, api.Frac{Num: 0, Den: 1}, api.OK},
		{510, 10, api.Frac{Num: 30, Den: 1}, api.OK},
		{520, 0, api.Frac{Num: 41, Den: 1}, api.OK},
		{501, 0, api.Frac{Num: 41, Den: 20}, api.OK},
		{500, -1, api.Frac{Num: -19, Den: 20}, api.OK},
		{900, 100, api.Frac{Num: 915, Den: 1}, api.OK},
		{900, -100, api.Frac{Num: 725, Den: 1}, api.OK},
		{499, 0, api.Frac{}, api.ErrRange},
		{901, 0, api.Frac{}, api.ErrRange},
		{0, 0, api.Frac{}, api.ErrRange},
		{math.MinInt, 0, api.Frac{}, api.ErrRange},
		{math.MaxInt, 0, api.Frac{}, api.ErrRange},
		{510, 101, api.Frac{}, api.ErrRange},
		{510, -101, api.Frac{}, api.ErrRange},
		{510, math.MinInt, api.Frac{}, api.ErrRange},
		{510, math.MaxInt, api.Frac{}, api.ErrRange},
	} {
		f, e := series.Predicted(later, x.day, x.base)
		want(t, fmt.Sprint("Predicted ", x.day, x.base), f, e, x.right, x.e)
	}
	last := dates(100000, 5, 0, 0)
	f, e := series.Predicted(last, 100401, 0)
	wantError(t, "too late, and of a lesser rank", f, e, api.ErrRange)
	f, e = series.Predicted(last, 100000, 101)
	wantError(t, "a great base, and of a lesser rank", f, e, api.ErrRange)
	f, e = series.Predicted(last, 100400, 0)
	wantError(t, "of a lesser rank", f, e, api.ErrRank)
	behind := dates(99980, 0, 0, 0, 99990, 10, 30, 0, 100000, 0, 40, 0)
	f, e = series.Predicted(behind, 100380, 7)
	want(t, "behind the last day of all", f, e, api.Frac{Num: 807, Den: 1}, api.OK)
}

func TestP8_2PredictedAny(t *testing.T) {
	r, seen := numbers{7}, counter{}
	for i, s := range r.anySeries(1000) {
		f := tableOf(s).fit(phasesOf(s))
		day, base := r.below(401), r.within(100)
		if i%2 == 0 {
			day, base = r.below(20), r.within(5)
		}
		var right api.Frac
		rightError := api.ErrRank
		if f != nil {
			var l []api.Frac
			if l, rightError = fractions(at(f, day, base, 1)); rightError == api.OK {
				right = l[0]
			}
		}
		got, e := series.Predicted(s, s.Epochs[0].Day+day, base)
		want(t, fmt.Sprint("Predicted ", s), got, e, right, rightError)
		seen[e]++
	}
	seen.saw(t, api.OK, api.ErrRank, api.ErrLarge)
}

// Each of Solve, Residuals and Predicted looks at the fractions of its own result alone.
func TestP8_2SmallResultsBesideLargeOnes(t *testing.T) {
	seen := map[string]bool{}
	r := numbers{8}
	for range 4000 {
		s := r.series(3+r.below(2), 400, 100, 16000, 0)
		_, e := series.Solve(s)
		_, f := series.Residuals(s)
		x, g := series.Predicted(s, s.Epochs[0].Day, 0)
		date := s.Epochs[len(s.Epochs)-1]
		y, h := series.Predicted(s, date.Day, date.Base)
		if g == api.OK && (x == api.Frac{}) || h == api.OK && (y == api.Frac{}) {
			t.Error("nothing predicted:", s)
		}
		seen[fmt.Sprint("Solve ", e == api.ErrLarge, ", Residuals ", f == api.ErrLarge)] = true
		seen[fmt.Sprint("Solve ", e == api.ErrLarge, ", Predicted ", h == api.ErrLarge)] = true
	}
	for _, x := range []string{"Solve true, Residuals false", "Solve false, Residuals true", "Solve true, Predicted false", "Solve false, Predicted true"} {
		if !seen[x] {
			t.Error("did not occur:", x)
		}
	}
}

func TestP8_2SquaresOf(t *testing.T) {
	for _, x := range []struct {
		x     [3]int
		right int
	}{{[3]int{2, 1, 0}, 0}, {[3]int{0, 0, 0}, 2500}, {[3]int{0, 0, 5}, 25 + 625 + 1225}, {[3]int{1, 0, 0}, 400 + 400}, {[3]int{0, -1, 0}, 1600 + 1600}, {[3]int{2, 1, -3}, 27}} {
		sum, e := series.SquaresOf(example(), x.x)
		want(t, "the example", sum, e, x.right, api.OK)
	}
	r := numbers{9}
	for i, s := range r.anySeries(400) {
		x := [3]int{r.within(100), r.within(100), r.within(1000000)}
		switch i % 4 {
		case 0:
			x = [3]int{r.within(3), r.within(3), r.within(30)}
		case 1:
			x = [3]int{100 - 200*r.below(2), 100 - 200*r.below(2), 1000000 - 2000000*r.below(2)}
		}
		right := 0
		for _, date := range s.Epochs {
			missed := date.Phase - x[0]*(date.Day-s.Epochs[0].Day) - x[1]*date.Base - x[2]
			right += missed * missed
		}
		sum, e := series.SquaresOf(s, x)
		want(t, fmt.Sprint("SquaresOf ", s, x), sum, e, right, api.OK)
	}
}

func TestP8_2SquaresOfErrors(t *testing.T) {
	for _, s := range []api.SeriesPoint{example(), dates(0, 0, 0, 0)} {
		for i, most := range []int{100, 100, 1000000} {
			for n, right := range map[int]api.Errno{most: api.OK, -most: api.OK, most + 1: api.ErrRange, -most - 1: api.ErrRange, math.MinInt: api.ErrRange, math.MaxInt: api.ErrRange} {
				var x [3]int
				x[i] = n
				sum, e := series.SquaresOf(s, x)
				wantError(t, fmt.Sprint("SquaresOf ", x), sum, e, right)
			}
		}
	}
	sum, e := series.SquaresOf(dates(0, 0, 1, 0), [3]int{100, 100, 1000000})
	want(t, "a lesser rank", sum, e, 999999*999999, api.OK)
}

func TestP8_3VelocityRange(t *testing.T) {
	v, e := series.VelocityRange(rightSeries()["all margins"])
	want(t, "example 6", v, e, api.Range{Lo: 1900, Hi: 2100}, api.OK)
	v, e = series.VelocityRange(example())
	want(t, "no margins", v, e, api.Range{Lo: 2000, Hi: 2000}, api.OK)
	v, e = series.VelocityRange(dates(0, 0, 0, 0, 10, 10, 30, 2048, 20, 0, 40, 0))
	want(t, "a margin without a weight", v, e, api.Range{Lo: 2000, Hi: 2000}, api.OK)
	v, e = series.VelocityRange(dates(0, 0, 0, 0, 10, 10, 30, 0, 30, 0, 40, 0))
	want(t, "between thousandths", v, e, api.Range{Lo: 1333, Hi: 1334}, api.OK)
	v, e = series.VelocityRange(dates(0, 0, 0, 0, 10, 10, 30, 0, 30, 0, -40, 0))
	want(t, "between thousandths below 0", v, e, api.Range{Lo: -1334, Hi: -1333}, api.OK)
	v, e = series.VelocityRange(dates(0, 0, 0, 2, 10, 10, 30, 0, 30, 0, 40, 5))
	want(t, "margins at two dates", v, e, api.Range{Lo: 1100, Hi: 1567}, api.OK)
	v, e = series.VelocityRange(dates(0, 0, 0, 0, 10, 10, 30, 4, 20, 20, 40, 0, 21, 5, 40, 0))
	want(t, "a weight below 0", v, e, rightVelocity(dates(0, 0, 0, 0, 10, 10, 30, 4, 20, 20, 40, 0, 21, 5, 40, 0)), api.OK)
}

// rightVelocity finds the weight of each phase from a fit of this phase alone, as a fit of sums is the sum of fits.
func rightVelocity(s api.SeriesPoint) api.Range {
	lo, hi := new(big.Rat), new(big.Rat)
	for i, date := range s.Epochs {
		one := make([]int, len(s.Epochs))
		one[i] = 1
		weight := times(whole(1000), tableOf(s).fit(one)[0])
		a, b := times(weight, whole(date.Phase-date.Margin)), times(weight, whole(date.Phase+date.Margin))
		lo, hi = plus(lo, least(a, b)), plus(hi, greatest(a, b))
	}
	return api.Range{Lo: down(lo), Hi: up(hi)}
}

// triedVelocity tries all phases at the ends of their margins.
func triedVelocity(s api.SeriesPoint) api.Range {
	var lo, hi *big.Rat
	for choice := range 1 << len(s.Epochs) {
		phases := phasesOf(s)
		for i, date := range s.Epochs {
			phases[i] += date.Margin * (2*(choice>>i&1) - 1)
		}
		v := times(whole(1000), tableOf(s).fit(phases)[0])
		if choice == 0 {
			lo, hi = v, v
		}
		lo, hi = least(lo, v), greatest(hi, v)
	}
	return api.Range{Lo: down(lo), Hi: up(hi)}
}

func TestP8_3VelocityRangeOfAny(t *testing.T) {
	r, tried := numbers{10}, 0
	for _, s := range r.anySeries(800) {
		v, e := series.VelocityRange(s)
		if tableOf(s).rank() < 3 {
			wantError(t, fmt.Sprint("VelocityRange ", s), v, e, api.ErrRank)
			continue
		}
		want(t, fmt.Sprint("VelocityRange ", s), v, e, rightVelocity(s), api.OK)
		if len(s.Epochs) <= 5 {
			want(t, fmt.Sprint("VelocityRange ", s), v, e, triedVelocity(s), api.OK)
			tried++
		}
	}
	if tried < 50 {
		t.Error("only so many series tried:", tried)
	}
}

// greatestSeries returns series of 20 dates with the greatest numbers that there are: late days, and phases, bases and
// margins at the ends of their ranges, in such patterns that sums are as great as may be.
func greatestSeries() []api.SeriesPoint {
	var out []api.SeriesPoint
	for pattern := range 64 {
		s := dates()
		for i := range api.MaxEpochs {
			day := i
			if i >= 1+pattern%4*6 {
				day = api.MaxSpan - (api.MaxEpochs - 1 - i)
			}
			sign := func(bit int) int { return 1 - 2*(i*(1+pattern/4)>>bit&1) }
			s.Epochs = append(s.Epochs, api.SeriesEpoch{
				Day:    api.MaxDay - api.MaxSpan + day,
				Base:   api.MaxBase * sign(pattern/32),
				Phase:  api.MaxMoved * sign(pattern/8%4),
				Margin: api.MaxMargin,
			})
		}
		out = append(out, s)
	}
	return out
}

// The greatest numbers, too, are reckoned with exactly.
func TestP8_2GreatestNumbers(t *testing.T) {
	solved := 0
	for _, s := range greatestSeries() {
		if e := series.CheckSeries(s); e != api.OK {
			t.Fatal(s, e)
		}
		l, phases := tableOf(s), phasesOf(s)
		f := l.fit(phases)
		right, rightError := three(f)
		got, e := series.Solve(s)
		want(t, fmt.Sprint("Solve ", s), got, e, right, rightError)
		for parameter := range 2 {
			right, rightError := two(l.columns(parameter, 2).fit(phases))
			got, e := series.SolveOnly(s, parameter)
			want(t, fmt.Sprint("SolveOnly ", s), got, e, right, rightError)
		}
		if f == nil {
			continue
		}
		solved++
		missed, rightError := fractions(l.missed(f, phases)...)
		gotMissed, e := series.Residuals(s)
		want(t, fmt.Sprint("Residuals ", s), gotMissed, e, missed, rightError)
		v, e := series.VelocityRange(s)
		want(t, fmt.Sprint("VelocityRange ", s), v, e, rightVelocity(s), api.OK)
		for _, base := range []int{-100, 100} {
			predicted, rightError := fractions(at(f, 400, base, 1))
			gotPredicted, e := series.Predicted(s, s.Epochs[0].Day+400, base)
			want(t, fmt.Sprint("Predicted ", s), []api.Frac{gotPredicted}, e, append(predicted, make([]api.Frac, 1-len(predicted))...), rightError)
		}
	}
	if solved < 20 {
		t.Error("only so many series solved:", solved)
	}
}

// P8.8: what is missed has the sum 0, also times t, and times b.
func TestP8_8ResidualsAreOrthogonal(t *testing.T) {
	r, solved := numbers{11}, 0
	for _, s := range r.anySeries(1000) {
		missed, e := series.Residuals(s)
		if e != api.OK {
			continue
		}
		solved++
		for column := range 3 {
			sum := new(big.Rat)
			for i, row := range tableOf(s) {
				sum = plus(sum, times(whole(row[column]), ratOf(missed[i])))
			}
			if sum.Sign() != 0 {
				t.Errorf("%v: the residuals %v have the sum %v at %d", s, missed, sum, column)
			}
		}
	}
	if solved < 200 {
		t.Error("only so many series solved:", solved)
	}
}

// P8.8: a fit with whole parameters is found again where phases miss it by what is orthogonal to all of them, and no
// other whole parameters have a lesser sum of squares.
func TestP8_8LeastSquares(t *testing.T) {
	r, missing := numbers{12}, 0
	for range 200 {
		x := [3]int{r.within(5), r.within(5), r.within(50)}
		s := r.series(4+r.below(5), 30, 3, 0, 0)
		l := tableOf(s)
		phases := make([]int, len(l))
		for i := range phases {
			phases[i] = r.within(3)
		}
		f := l.fit(phases)
		if f == nil {
			continue
		}
		missed := l.missed(f, phases)
		common := big.NewInt(1)
		for _, m := range missed {
			common.Div(new(big.Int).Mul(common, m.Denom()), new(big.Int).GCD(nil, nil, common, m.Denom()))
		}
		if common.Cmp(big.NewInt(3000)) > 0 {
			continue
		}
		for i, row := range l {
			s.Epochs[i].Phase = x[0]*row[0] + x[1]*row[1] + x[2] + down(times(missed[i], new(big.Rat).SetInt(common)))
		}
		found, e := series.Solve(s)
		want(t, fmt.Sprint("Solve ", s), found, e, [3]api.Frac{{Num: x[0], Den: 1}, {Num: x[1], Den: 1}, {Num: x[2], Den: 1}}, api.OK)
		sum, e := series.SquaresOf(s, x)
		if e != api.OK {
			t.Error(s, x, e)
		}
		if sum > 0 {
			missing++
		}
		for range 100 {
			y := [3]int{x[0] + r.within(2), x[1] + r.within(2), x[2] + r.within(9)}
			if other, e := series.SquaresOf(s, y); e != api.OK || other < sum || other == sum && y != x {
				t.Errorf("%v: %v has the sum %d, and %v has %d, error %d", s, x, sum, y, other, e)
			}
		}
	}
	if missing < 30 {
		t.Error("only so many fits miss a phase:", missing)
	}
}

// P8.9: another datum changes nothing but the constant.
func TestP8_9Datum(t *testing.T) {
	r, solved := numbers{13}, 0
	for _, s := range r.anySeries(300) {
		fit, e := series.Solve(s)
		missed, _ := series.Residuals(s)
		for epoch, date := range s.Epochs {
			moved, f := series.Datum(s, epoch)
			if e != api.OK || f != api.OK {
				continue
			}
			right := fit
			l, g := fractions(less(ratOf(fit[2]), whole(date.Phase)))
			if g == api.OK {
				right[2] = l[0]
			} else {
				right = [3]api.Frac{}
			}
			again, h := series.Solve(moved)
			want(t, fmt.Sprint("Solve ", moved), again, h, right, g)
			others, _ := series.Residuals(moved)
			want(t, fmt.Sprint("Residuals ", moved), others, api.OK, missed, api.OK)
			solved++
		}
	}
	if solved < 300 {
		t.Error("only so many series solved:", solved)
	}
	s, e := series.Datum(example(), 1)
	fit, f := series.Solve(s)
	want(t, "example 5", fit, f, [3]api.Frac{{Num: 2, Den: 1}, {Num: 1, Den: 1}, {Num: -30, Den: 1}}, e)
}

// P8.10: all parameters are determined just if the rank is 3, and a date more does not make it less.
func TestP8_10Determined(t *testing.T) {
	r := numbers{14}
	for _, s := range r.anySeries(500) {
		rank, open, e := series.RankOf(s)
		if e != api.OK || (rank == 3) != (len(open) == 0) || rank < 1 || rank > 3 {
			t.Errorf("%v: rank %d, %v, error %d", s, rank, open, e)
		}
		_, f := series.Solve(s)
		_, g := series.VelocityRange(s)
		if (rank == 3) != (f != api.ErrRank) || (rank == 3) != (g == api.OK) {
			t.Errorf("%v: rank %d, errors %d, %d", s, rank, f, g)
		}
		for i := range s.Epochs {
			fewer := s
			fewer.Epochs = slices.Delete(slices.Clone(s.Epochs), i, i+1)
			if n, _, e := series.RankOf(fewer); e == api.OK && n > rank {
				t.Errorf("%v: rank %d, without a date %d", s, rank, n)
			}
		}
	}
}

// P8.11: a thousand times the velocity lies in VelocityRange, and with greater margins this is not smaller.
func TestP8_11Velocities(t *testing.T) {
	r, solved := numbers{15}, 0
	for _, s := range r.anySeries(800) {
		v, e := series.VelocityRange(s)
		if e != api.OK {
			continue
		}
		solved++
		inside := s
		inside.Epochs = slices.Clone(s.Epochs)
		wider := inside
		wider.Epochs = slices.Clone(s.Epochs)
		for i, date := range s.Epochs {
			inside.Epochs[i].Phase = min(16000, max(-16000, date.Phase+r.within(date.Margin)))
			wider.Epochs[i].Margin = min(api.MaxMargin, date.Margin+r.below(9))
		}
		for _, x := range []api.SeriesPoint{s, inside} {
			if fit, e := series.Solve(x); e == api.OK && (1000*fit[0].Num < v.Lo*fit[0].Den || 1000*fit[0].Num > v.Hi*fit[0].Den) {
				t.Errorf("%v: the velocity %v is not in %v", x, fit[0], v)
			}
		}
		if w, e := series.VelocityRange(wider); e != api.OK || w.Lo > v.Lo || w.Hi < v.Hi {
			t.Errorf("%v: %v, with greater margins %v, error %d", s, v, w, e)
		}
	}
	if solved < 200 {
		t.Error("only so many series solved:", solved)
	}
}

// edgeScreens have a trend whose constant has the greatest numerator that is small, or one more.
func edgeScreens() map[string]struct {
	x, phases []int
	right     [2]api.Frac
	e         api.Errno
} {
	return map[string]struct {
		x, phases []int
		right     [2]api.Frac
		e         api.Errno
	}{
		"the greatest numerator": {[]int{96, 1, 72, -16, 93, 99}, []int{7071, 9903, 10497, 15498, -4570, 4866}, [2]api.Frac{{Num: -2468957, Den: 26539}, {Num: 1000000000, Den: 79617}}, api.OK},
		"a greater one":          {[]int{37, -3, 5, 89, 100, 89}, []int{14648, 15001, 13992, 5685, 3653, -12909}, [2]api.Frac{}, api.ErrLarge},
		"the least numerator":    {[]int{92, -16, -18, 92, 91, 86}, []int{984, -14792, -11601, -10760, 9592, 3745}, [2]api.Frac{{Num: 3970768, Den: 30727}, {Num: -1000000000, Den: 92181}}, api.OK},
		"a lesser one":           {[]int{27, 89, -9, 81, -18, 97}, []int{-9176, 14641, -15204, -5699, -14475, -15088}, [2]api.Frac{}, api.ErrLarge},
	}
}

func TestP8_2GreatestNumerators(t *testing.T) {
	for what, x := range edgeScreens() {
		s := dates()
		for i, base := range x.x {
			s.Epochs = append(s.Epochs, api.SeriesEpoch{Day: i, Base: base, Phase: x.phases[i]})
		}
		f, e := series.SolveOnly(s, api.SeriesHeight)
		want(t, what, f, e, x.right, x.e)
	}
}

// Both have a velocity with the greatest denominator that is small.
func TestP8_2GreatestDenominators(t *testing.T) {
	one := dates(0, 52, 0, 0, 80, 32, 3, 0, 120, -90, 4, 0, 200, 54, -2, 0, 280, 83, 6, 0, 340, 81, -5, 0, 380, -80, -10, 0, 400, 38, 1, 0)
	f, e := series.Solve(one)
	want(t, "the greatest denominator", f, e, [3]api.Frac{{Num: -15712667, Den: 1000000000}, {Num: 957613, Den: 50000000}, {Num: 55067291, Den: 20000000}}, api.OK)
	two := dates(0, 66, -8, 0, 40, -49, 0, 0, 120, -77, 1, 0, 140, -66, 10, 0, 240, 73, 9, 0, 260, 58, -3, 0, 320, 90, 10, 0, 360, 4, 3, 0, 400, 60, 2, 0)
	f, e = series.Solve(two)
	want(t, "the greatest denominator", f, e, [3]api.Frac{{Num: 24422793, Den: 1000000000}, {Num: -1420979, Den: 50000000}, {Num: -96645209, Den: 50000000}}, api.OK)
	x, e := series.Predicted(two, 1, -68)
	right, rightError := fractions(at(tableOf(two).fit(phasesOf(two)), 1, -68, 1))
	want(t, "a model with the greatest denominator", []api.Frac{x}, e, right, rightError)
	if x.Den != api.MaxPart {
		t.Error("another denominator:", x)
	}
}
