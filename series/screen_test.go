package series_test

import (
	"fmt"
	"math/big"
	"slices"
	"testing"

	"swath/api"
	"swath/series"
)

// heights and places are the tables of a screen, for its trend and for its plane.
func heights(l []api.ScreenPoint) table {
	var out table
	for _, p := range l {
		out = append(out, []int{p.Height, 1})
	}
	return out
}

func places(l []api.ScreenPoint) table {
	var out table
	for _, p := range l {
		out = append(out, []int{p.X, p.Y, 1})
	}
	return out
}

func screenPhases(l []api.ScreenPoint) []int {
	var out []int
	for _, p := range l {
		out = append(out, p.Phase)
	}
	return out
}

// rising returns points with such heights and phases, one behind the other.
func rising(numbers ...int) []api.ScreenPoint {
	var l []api.ScreenPoint
	for of := range slices.Chunk(numbers, 2) {
		l = append(l, api.ScreenPoint{X: len(l), Height: of[0], Phase: of[1]})
	}
	return l
}

func TestP8_4CheckScreen(t *testing.T) {
	for what, l := range map[string][]api.ScreenPoint{
		"the example":      exampleScreen(),
		"one point":        points(0, 0, 0, 0),
		"24 points":        make([]api.ScreenPoint, 24),
		"the far edge":     points(200, 200, 200, 16000),
		"the other edge":   points(-200, -200, -200, -16000),
		"edges mixed":      points(-200, 200, -200, 16000, 200, -200, 200, -16000),
		"a place with two": points(1, 2, 3, 4, 1, 2, 3, 4),
	} {
		if e := series.CheckScreen(l); e != api.OK {
			t.Errorf("%s: error %d", what, e)
		}
	}
	for what, x := range wrongScreens() {
		if e := series.CheckScreen(x.x); e != x.e {
			t.Errorf("%s: error %d, want %d", what, e, x.e)
		}
		f, e := series.HeightTrend(x.x)
		wantError(t, "HeightTrend: "+what, f, e, x.e)
		p, e := series.Plane(x.x)
		wantError(t, "Plane: "+what, p, e, x.e)
		l, e := series.Removed(x.x)
		wantError(t, "Removed: "+what, l, e, x.e)
	}
}

func TestP8_4HeightTrend(t *testing.T) {
	f, e := series.HeightTrend(exampleScreen())
	want(t, "example 7", f, e, [2]api.Frac{{Num: 2, Den: 5}, {Num: 1, Den: 1}}, api.OK)
	f, e = series.HeightTrend(rising(5, 8, -3, -10))
	want(t, "two points", f, e, [2]api.Frac{{Num: 9, Den: 4}, {Num: -13, Den: 4}}, api.OK)
	f, e = series.HeightTrend(points(3, 4, 5, 7, 3, 4, 9, 7, 3, 4, -1, 7))
	want(t, "one place, one phase", f, e, [2]api.Frac{{Num: 0, Den: 1}, {Num: 7, Den: 1}}, api.OK)
	for what, x := range edgeScreens() {
		var l []api.ScreenPoint
		for i, height := range x.x {
			l = append(l, api.ScreenPoint{Height: height, Phase: x.phases[i]})
		}
		f, e := series.HeightTrend(l)
		want(t, what, f, e, x.right, x.e)
		removed, e := series.Removed(l)
		want(t, what+", removed", removed, e, rightRemoved(l), api.OK)
	}
	for what, l := range map[string][]api.ScreenPoint{
		"one point":  points(1, 2, 3, 4),
		"one height": points(1, 2, 3, 4, 5, 6, 3, 7, 8, 9, 3, 12),
		"no height":  points(1, 2, 0, 4, 5, 6, 0, 7),
	} {
		f, e := series.HeightTrend(l)
		wantError(t, "HeightTrend: "+what, f, e, api.ErrRank)
		r, e := series.Removed(l)
		wantError(t, "Removed: "+what, r, e, api.ErrRank)
	}
}

func TestP8_4HeightTrendOfAny(t *testing.T) {
	r, seen := numbers{16}, counter{}
	for _, l := range r.anyScreens(600) {
		right, rightError := two(heights(l).fit(screenPhases(l)))
		f, e := series.HeightTrend(l)
		want(t, fmt.Sprint("HeightTrend ", l), f, e, right, rightError)
		seen[e]++
	}
	seen.saw(t, api.OK, api.ErrRank, api.ErrLarge)
}

func TestP8_4Plane(t *testing.T) {
	f, e := series.Plane(points(0, 0, 9, 1, 10, 0, 9, 6, 0, 10, 9, -2))
	want(t, "three points", f, e, [3]api.Frac{{Num: 1, Den: 2}, {Num: -3, Den: 10}, {Num: 1, Den: 1}}, api.OK)
	f, e = series.Plane(points(0, 0, 9, 1, 10, 0, 8, 6, 0, 10, 7, -2, 10, 10, 6, 4))
	want(t, "four points", f, e, [3]api.Frac{{Num: 11, Den: 20}, {Num: -1, Den: 4}, {Num: 3, Den: 4}}, api.OK)
	f, e = series.Plane(points(0, 0, 1, 7, 10, 0, 2, 7, 0, 10, 3, 7))
	want(t, "one phase", f, e, [3]api.Frac{{Num: 0, Den: 1}, {Num: 0, Den: 1}, {Num: 7, Den: 1}}, api.OK)
	for what, l := range map[string][]api.ScreenPoint{
		"one point":      points(1, 2, 3, 4),
		"two points":     points(1, 2, 3, 4, 5, 6, 7, 8),
		"a line":         points(1, 2, 3, 4, 3, 3, 7, 8, 5, 4, 9, 9, -1, 1, 0, 0),
		"one X":          points(1, 2, 3, 4, 1, 3, 7, 8, 1, 4, 9, 9),
		"one Y":          points(1, 2, 3, 4, 5, 2, 7, 8, 6, 2, 9, 9),
		"no place":       points(0, 0, 3, 4, 0, 0, 7, 8, 0, 0, 9, 9),
		"a place thrice": points(1, 2, 3, 4, 1, 2, 3, 4, 1, 2, 5, 6, 7, 8, 9, 9),
	} {
		f, e := series.Plane(l)
		wantError(t, "Plane: "+what, f, e, api.ErrRank)
	}
}

func TestP8_4PlaneOfAny(t *testing.T) {
	r, seen := numbers{17}, counter{}
	for _, l := range r.anyScreens(900) {
		right, rightError := three(places(l).fit(screenPhases(l)))
		f, e := series.Plane(l)
		want(t, fmt.Sprint("Plane ", l), f, e, right, rightError)
		seen[e]++
	}
	seen.saw(t, api.OK, api.ErrRank, api.ErrLarge)
}

func TestP8_4PlaneOfGreatestNumbers(t *testing.T) {
	for i := range 16 {
		l := slices.Repeat(points(200, 200, 0, 16000, -200, 200, 0, -16000, 200, -200, 0, 16000, -200, -200, 0, 16000), 6)
		for k := range l {
			if k*(1+i%4)%7 < 3 {
				l[k].Phase -= l[k].Phase / 16000 * (1 + i)
			}
		}
		right, rightError := three(places(l).fit(screenPhases(l)))
		f, e := series.Plane(l)
		want(t, fmt.Sprint("Plane ", l), f, e, right, rightError)
	}
}

// rightRemoved returns nothing if several trends fit.
func rightRemoved(l []api.ScreenPoint) []int {
	f := heights(l).fit(screenPhases(l))
	if f == nil {
		return nil
	}
	var out []int
	for _, missed := range heights(l).missed(f, screenPhases(l)) {
		out = append(out, nearest(missed))
	}
	return out
}

func TestP8_4Removed(t *testing.T) {
	for _, x := range []struct {
		what  string
		l     []api.ScreenPoint
		right []int
	}{
		{"example 7", exampleScreen(), []int{0, 0, 0}},
		{"halves upwards", rising(-1, 0, -1, 1, 1, 0, 1, 1), []int{0, 1, 0, 1}},
		{"halves upwards, of greater phases", rising(-1, 100, -1, 103, 1, 100, 1, 103), []int{-1, 2, -1, 2}},
		{"nearly halves", rising(0, 0, 0, 1, 0, 1, 9, 5), []int{-1, 0, 0, 0}},
		{"thirds below 0", rising(0, 0, 0, 0, 0, 1, 9, 5), []int{0, 0, 1, 0}},
		{"a slope with halves", rising(0, 0, 1, 0, 1, 1, 2, 1), []int{0, 0, 1, 0}},
	} {
		l, e := series.Removed(x.l)
		want(t, x.what, l, e, x.right, api.OK)
		want(t, x.what+", anew", rightRemoved(x.l), e, x.right, api.OK)
	}
	r, seen, halves := numbers{18}, counter{}, 0
	for _, l := range r.anyScreens(900) {
		right := rightRemoved(l)
		rightError := api.OK
		if right == nil {
			rightError = api.ErrRank
		} else {
			for _, missed := range heights(l).missed(heights(l).fit(screenPhases(l)), screenPhases(l)) {
				if missed.Denom().Cmp(big.NewInt(2)) == 0 {
					halves++
				}
			}
		}
		removed, e := series.Removed(l)
		want(t, fmt.Sprint("Removed ", l), removed, e, right, rightError)
		seen[e]++
	}
	seen.saw(t, api.OK, api.ErrRank)
	if halves < 20 {
		t.Error("only so many halves:", halves)
	}
}
