package series_test

import (
	"fmt"
	"math"
	"reflect"
	"slices"
	"testing"

	"swath/api"
	"swath/series"
)

func oddNumbers() []int {
	return []int{0, 1, -1, 3, 20, 101, 401, 16001, 100001, 1000001, api.PhaseVoid, math.MaxInt, math.MinInt, math.MaxInt - 1, math.MinInt + 1}
}

func oddSeries() []api.SeriesPoint {
	out := []api.SeriesPoint{{}, example(), {Name: "p", Epochs: make([]api.SeriesEpoch, 1000)}}
	for _, s := range rightSeries() {
		out = append(out, s)
	}
	for _, x := range wrongSeries() {
		out = append(out, x.x)
	}
	for _, a := range oddNumbers() {
		for _, b := range oddNumbers() {
			out = append(out, dates(a, b, a, b), dates(0, 0, 0, 0, a, b, 0, 0, b, a, 0, 0), dates(0, 5, a, b, 1, 0, b, a, 2, 7, a, a))
		}
	}
	return out
}

// P1 of the document: every function terminates and does not panic, and beside an error all is zero.
func TestP1NoPanicOfSeries(t *testing.T) {
	for _, s := range oddSeries() {
		right := series.CheckSeries(s)
		for _, odd := range oddNumbers() {
			for name, e := range seriesErrors(t, "a series", s, odd) {
				if right != api.OK && e != right {
					t.Errorf("%v: %s has the error %d, want %d", s, name, e, right)
				}
			}
		}
	}
}

// P1 of the document, for screens, movements and tracks.
func TestP1NoPanicOfOthers(t *testing.T) {
	for _, a := range oddNumbers() {
		for _, b := range oddNumbers() {
			for _, l := range [][]api.ScreenPoint{points(a, b, a, b), points(0, 0, 0, 0, a, b, b, a, b, a, 1, b), make([]api.ScreenPoint, max(0, min(a, 1000)))} {
				right := series.CheckScreen(l)
				f, e := series.HeightTrend(l)
				zeroBeside(t, "HeightTrend", f, e)
				p, g := series.Plane(l)
				zeroBeside(t, "Plane", p, g)
				r, h := series.Removed(l)
				zeroBeside(t, "Removed", r, h)
				if right != api.OK && (e != right || g != right || h != right) {
					t.Errorf("%v: errors %d, %d, %d, want %d", l, e, g, h, right)
				}
			}
			for _, x := range []api.SeriesMoved{moved(a, 0, b, 0, 1), moved(0, a, 0, b, 1), moved(a, b, b, a, a), moved(1, 1, 1, a, b)} {
				m, e := series.Moved(x)
				zeroBeside(t, "Moved", m, e)
				answer, e := series.Exceeds(x, b)
				zeroBeside(t, "Exceeds", answer, e)
			}
			for _, x := range []api.TwoTracks{tracks(sight(a, b, a, b), sight(b, a, b, a)), tracks(sight(1, 2, a, b), sight(2, 1, a, b)), tracks(sight(a, b, 0, 0), sight(a, a, 0, 0))} {
				right := series.CheckSights(x)
				f, e := series.UpAndEast(x)
				zeroBeside(t, "UpAndEast", f, e)
				box, g := series.UpAndEastBox(x)
				zeroBeside(t, "UpAndEastBox", box, g)
				if right != api.OK && (e != right || g != right) {
					t.Errorf("%v: errors %d, %d, want %d", x, e, g, right)
				}
			}
		}
	}
}

// P1 of the document, for texts.
func TestP1NoPanicOfTexts(t *testing.T) {
	whole := exampleText
	for i := range len(whole) {
		for _, text := range []string{whole[:i], whole[i:], whole[:i] + "\x00" + whole[i:], whole[:i] + "9" + whole[i+1:], whole[:i] + "-" + whole[i:], whole[:i] + " " + whole[i:], whole[:i] + "\n" + whole[i+1:], whole[:i] + whole[i+1:]} {
			s, line, e := series.Parse(text)
			zeroBeside(t, text, s, e)
			if again, f := series.Print(s); e == api.OK && (again != text || f != api.OK || line != 0) {
				t.Errorf("%q is the text of %q, error %d, line %d", text, again, f, line)
			}
			if (line != 0) != (e == api.ErrSyntax) {
				t.Errorf("%q: error %d at line %d", text, e, line)
			}
		}
	}
}

// Fractions are in lowest terms with a denominator above 0, also 0.
func TestFractionsAreLowest(t *testing.T) {
	r, count := numbers{28}, 0
	look := func(what any, l ...api.Frac) {
		for _, f := range l {
			count++
			if f.Den < 1 || f.Den > api.MaxPart || f.Num < -api.MaxPart || f.Num > api.MaxPart || ratOf(f).Denom().Int64() != int64(f.Den) {
				t.Errorf("%v: the fraction %v", what, f)
			}
		}
	}
	for _, s := range r.anySeries(300) {
		if f, e := series.Solve(s); e == api.OK {
			look(s, f[:]...)
		}
		if f, e := series.SolveOnly(s, 0); e == api.OK {
			look(s, f[:]...)
		}
		if l, e := series.Residuals(s); e == api.OK {
			look(s, l...)
		}
		if f, e := series.Predicted(s, s.Epochs[0].Day, 1); e == api.OK {
			look(s, f)
		}
	}
	for _, l := range r.anyScreens(100) {
		if f, e := series.HeightTrend(l); e == api.OK {
			look(l, f[:]...)
		}
		if f, e := series.Plane(l); e == api.OK {
			look(l, f[:]...)
		}
	}
	for _, x := range r.anyTracks(300) {
		if f, e := series.UpAndEast(x); e == api.OK {
			look(x, f[:]...)
		}
	}
	if count < 1000 {
		t.Error("only so many fractions:", count)
	}
}

// spared returns the items in memory that goes on behind them, and a function that tells whether all of it is as it was.
func spared[T any](items []T, spare T) ([]T, func() bool) {
	memory := append(slices.Clone(items), spare, spare, spare)
	kept := slices.Clone(memory)
	return memory[:len(items)], func() bool { return reflect.DeepEqual(memory, kept) }
}

// calls are all functions, for a series and a screen that are handed over.
func calls(s api.SeriesPoint, l []api.ScreenPoint) map[string]func() ([]any, api.Errno) {
	return map[string]func() ([]any, api.Errno){
		"RankOf":       func() ([]any, api.Errno) { x, y, e := series.RankOf(s); return []any{x, y}, e },
		"Residuals":    func() ([]any, api.Errno) { x, e := series.Residuals(s); return []any{x}, e },
		"Datum":        func() ([]any, api.Errno) { x, e := series.Datum(s, 1); return []any{x}, e },
		"Datum of all": func() ([]any, api.Errno) { x, e := series.Datum(s, 0); return []any{x}, e },
		"Removed":      func() ([]any, api.Errno) { x, e := series.Removed(l); return []any{x}, e },
		"Parse":        func() ([]any, api.Errno) { x, y, e := series.Parse(textOf(s)); return []any{x, y}, e },
		"others": func() ([]any, api.Errno) {
			left, right, e := series.NormalOf(s)
			fit, f := series.Solve(s)
			only, g := series.SolveOnly(s, 0)
			predicted, h := series.Predicted(s, s.Epochs[1].Day, 1)
			sum, i := series.SquaresOf(s, [3]int{1, 2, 3})
			velocity, j := series.VelocityRange(s)
			trend, k := series.HeightTrend(l)
			plane, m := series.Plane(l)
			text, n := series.Print(s)
			return []any{left, right, e, fit, f, only, g, predicted, h, sum, i, velocity, j, trend, k, plane, m, text, n, series.CheckSeries(s), series.CheckScreen(l)}, api.OK
		},
	}
}

// R3: nothing is written into an argument, and results share no memory with them, or with further results.
func TestR3ArgumentsStay(t *testing.T) {
	for _, s := range []api.SeriesPoint{example(), dates(0, 0, 0, 0, 10, 0, 30, 0, 20, 0, 40, 0)} {
		l := exampleScreen()
		stay := make([]func() bool, 2)
		s.Epochs, stay[0] = spared(s.Epochs, api.SeriesEpoch{Day: 30, Base: 7, Phase: 9})
		l, stay[1] = spared(l, api.ScreenPoint{X: 7, Height: 9})
		for name, call := range calls(s, l) {
			one, e := call()
			two, f := call()
			want(t, name+" again", two, f, one, e)
			for _, result := range one {
				cleared(result)
			}
			three, f := call()
			want(t, name+" once more", three, f, two, e)
		}
		for i, is := range stay {
			if !is() {
				t.Error("an argument is changed:", i)
			}
		}
	}
}

// cleared overwrites the memory of a result, and what it has to spare.
func cleared(result any) {
	switch x := result.(type) {
	case api.SeriesPoint:
		clear(x.Epochs[:cap(x.Epochs)])
	case []api.Frac:
		clear(x[:cap(x)])
	case []int:
		clear(x[:cap(x)])
	}
}

// R4: calls with other arguments between are of no effect.
func TestR4EarlierCalls(t *testing.T) {
	r := numbers{29}
	small := calls(r.series(5, 30, 9, 99, 9), r.screen(5, 9, 99))
	large := calls(r.series(20, 400, 100, 16000, 2048), r.screen(24, 200, 16000))
	for name, call := range small {
		one, e := call()
		for _, other := range large {
			other()
		}
		two, f := call()
		want(t, name, two, f, one, e)
	}
	if fmt.Sprint(small["others"]()) == fmt.Sprint(large["others"]()) {
		t.Error("all series have one result")
	}
}
