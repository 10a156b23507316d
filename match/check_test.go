package match_test

import (
	"slices"
	"testing"

	"swath/api"
	"swath/match"
)

func TestP3_1CheckWindow(t *testing.T) {
	im := empty(5, 6)
	for _, w := range []api.MatchWindow{window(0, 0, 1, 1), window(0, 0, 5, 6), window(4, 5, 1, 1), window(2, 1, 3, 5)} {
		want(t, "CheckWindow", w, match.CheckWindow(im, w), w, api.OK)
	}
	want(t, "the greatest window", nil, match.CheckWindow(empty(64, 64), window(56, 56, 8, 8)), nil, api.OK)
	for what, x := range wrongWindows() {
		want(t, "CheckWindow: "+what, nil, match.CheckWindow(im, x.x), nil, x.e)
	}
	for what, x := range wrongImages() {
		want(t, "CheckWindow of a wrong image: "+what, nil, match.CheckWindow(x.x, window(0, 0, 1, 1)), nil, x.e)
		want(t, "CheckWindow of the image first: "+what, nil, match.CheckWindow(x.x, window(9, 9, 1, 1)), nil, x.e)
	}
	want(t, "CheckWindow of no data, no window", nil, match.CheckWindow(api.RadarImage{Lines: 1, Samples: 2}, api.MatchWindow{}), nil, api.ErrShape)
}

func TestP3_2CheckTask(t *testing.T) {
	for _, x := range []api.MatchTask{
		{Lines: 1, Samples: 1, Step: 1},
		{Lines: 8, Samples: 8, Step: 64, Reach: 4, Least: 1000, Tolerance: 8},
		task(2, 3, 1),
	} {
		want(t, "CheckTask", x, match.CheckTask(x), x, api.OK)
	}
	for _, x := range wrongTasks() {
		want(t, "CheckTask", x, match.CheckTask(x), x, api.ErrRange)
	}
}

func TestP3_2CheckPoints(t *testing.T) {
	least := api.MatchPoint{By: [2]int{-8, -8}}
	most := point(63, 63, 8, 8)
	for _, l := range [][]api.MatchPoint{nil, {}, {least}, {most}, examplePoints(), slices.Repeat([]api.MatchPoint{least, most}, 15)} {
		n, e := match.CheckPoints(l)
		want(t, "CheckPoints", n, e, 0, api.OK)
	}
	for what, x := range wrongPoints() {
		n, e := match.CheckPoints(x.x)
		want(t, "CheckPoints: "+what, n, e, x.n, x.e)
	}
}

func TestP3_3CheckAffine(t *testing.T) {
	const most = api.MaxMatchTerm
	for _, f := range []api.MatchAffine{
		moving(0, 0),
		exampleAffine(),
		affine(1000000000000, [3]int{most, -most, most}, [3]int{-most, most, -most}),
		affine(2, [3]int{2, 4, 6}, [3]int{}),
	} {
		want(t, "CheckAffine", f, match.CheckAffine(f), f, api.OK)
	}
	for what, f := range wrongAffines() {
		want(t, "CheckAffine: "+what, nil, match.CheckAffine(f), nil, api.ErrRange)
	}
}
