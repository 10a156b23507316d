package mesh_test

import (
	"fmt"
	"math"
	"slices"
	"testing"

	"swath/api"
	"swath/mesh"
)

func TestP6_1CheckPoints(t *testing.T) {
	for what, l := range pointSets() {
		number, e := mesh.CheckPoints(l)
		want(t, what, number, e, 0, api.OK)
	}
	for what, x := range wrongPoints() {
		number, e := mesh.CheckPoints(x.x)
		want(t, what, number, e, x.number, x.e)
	}
	r := numbers{1}
	number, e := mesh.CheckPoints(r.points(40, 10000))
	want(t, "40 points", number, e, 0, api.OK)
	number, e = mesh.CheckPoints(nil)
	want(t, "no points", number, e, 0, api.OK)
	number, e = mesh.CheckPoints(places(3, 4))
	want(t, "one point", number, e, 0, api.OK)
	number, e = mesh.CheckPoints(places(3, 4, 4, 3, 3, 3, 4, 4, -3, 4, 3, -4))
	want(t, "one number again", number, e, 0, api.OK)
	number, e = mesh.CheckPoints(places(10000, -10000, -10000, 10000))
	want(t, "the limits", number, e, 0, api.OK)
}

func TestP6_1Turn(t *testing.T) {
	for _, x := range []struct {
		of   []int
		turn int
	}{
		{[]int{0, 0, 4, 0, 4, 4}, 1}, {[]int{0, 0, 4, 4, 4, 0}, -1}, {[]int{0, 0, 2, 2, 4, 4}, 0}, {[]int{0, 0, 4, 4, 2, 2}, 0},
		{[]int{1, 1, 1, 1, 5, 2}, 0}, {[]int{5, 2, 1, 1, 1, 1}, 0}, {[]int{3, 3, 3, 3, 3, 3}, 0}, {[]int{0, 0, 0, 1, 0, -1}, 0},
		{[]int{-10000, -10000, 10000, 9999, 9999, 9998}, -1}, {[]int{-10000, -10000, 10000, 9999, 0, 0}, 1},
		{[]int{-10000, -10000, 10000, 10000, 9999, 9999}, 0}, {[]int{10000, -10000, -10000, 10000, -10000, -10000}, 1},
	} {
		l := places(x.of...)
		turn, e := mesh.Turn(l[0], l[1], l[2])
		want(t, fmt.Sprint(x.of), turn, e, x.turn, api.OK)
	}
	r := numbers{2}
	for i := range 3000 {
		most := []int{2, 10, 10000}[i%3]
		a, b, c := places(r.within(most), r.within(most))[0], places(r.within(most), r.within(most))[0], places(r.within(most), r.within(most))[0]
		turn, e := mesh.Turn(a, b, c)
		want(t, fmt.Sprint(a, b, c), turn, e, turnOf(a, b, c), api.OK)
	}
	for _, wrong := range []int{10001, -10001, math.MaxInt, math.MinInt} {
		for i := range 6 {
			of := []int{0, 0, 4, 0, 4, 4}
			of[i] = wrong
			l := places(of...)
			turn, e := mesh.Turn(l[0], l[1], l[2])
			wantError(t, fmt.Sprint(of), turn, e, api.ErrRange)
		}
	}
}

func TestP6_1InCircle(t *testing.T) {
	for _, x := range []struct {
		of     []int
		inside int
	}{
		{[]int{0, 0, 2, 0, 0, 2, 2, 2}, 0}, {[]int{0, 0, 2, 0, 0, 2, 1, 1}, 1}, {[]int{0, 0, 2, 0, 0, 2, 3, 0}, -1},
		{[]int{0, 0, 0, 2, 2, 0, 2, 2}, 0}, {[]int{0, 0, 0, 2, 2, 0, 1, 1}, 1}, {[]int{0, 0, 0, 2, 2, 0, 3, 0}, -1},
		{[]int{0, 0, 2, 0, 0, 2, 0, 0}, 0}, {[]int{0, 0, 2, 0, 0, 2, 2, 0}, 0}, {[]int{0, 0, 2, 0, 0, 2, 0, 2}, 0},
		{[]int{0, 0, 4, 0, 1, 2, 4, 4}, -1}, {[]int{-10000, -10000, 10000, -10000, 10000, 10000, -10000, 10000}, 0},
		{[]int{-10000, -10000, 10000, -10000, 10000, 10000, -9999, 9999}, 1}, {[]int{-10000, -10000, 10000, 9999, 9999, 9998, 10000, -10000}, -1},
		{[]int{-10000, -10000, 10000, 9999, 9999, 9998, -10000, 10000}, 1}, {[]int{-9999, 9999, 10000, -10000, 9999, 9999, 10000, 10000}, -1},
	} {
		l := places(x.of...)
		inside, e := mesh.InCircle([3]api.MeshPoint(l[:3]), l[3])
		want(t, fmt.Sprint(x.of), inside, e, x.inside, api.OK)
	}
	r := numbers{3}
	for i := range 4000 {
		l := r.points(3, []int{2, 5, 40, 10000}[i%4])
		most := []int{3, 6, 60, 10000}[i%4]
		d := api.MeshPoint{X: r.within(most), Y: r.within(most)}
		inside, e := mesh.InCircle([3]api.MeshPoint(l), d)
		want(t, fmt.Sprint(l, d), inside, e, insideOf(l[0], l[1], l[2], d), api.OK)
	}
	circle := pointSets()["a circle, shifted"]
	for i := range 4 * len(circle) {
		l := shuffled(&r, circle)
		near := shifted(l[3:4], []int{0, 1, 0, -1, 0}[i%5], []int{0, 0, 1, 0, -1}[i%5])[0]
		if max(near.X, -near.Y) > 10000 {
			continue
		}
		inside, e := mesh.InCircle([3]api.MeshPoint(l[:3]), near)
		want(t, fmt.Sprint(l[:3], near), inside, e, insideOf(l[0], l[1], l[2], near), api.OK)
	}
}

func TestP6_1InCircleErrors(t *testing.T) {
	for _, of := range [][]int{{0, 0, 1, 1, 2, 2, 5, 7}, {0, 0, 2, 2, 1, 1, 1, 1}, {1, 1, 1, 1, 5, 7, 0, 0}, {1, 1, 5, 7, 1, 1, 0, 0}, {5, 7, 1, 1, 1, 1, 0, 0}, {3, 3, 3, 3, 3, 3, 3, 3}} {
		l := places(of...)
		inside, e := mesh.InCircle([3]api.MeshPoint(l[:3]), l[3])
		wantError(t, fmt.Sprint(of), inside, e, api.ErrRank)
	}
	for _, wrong := range []int{10001, -10001, math.MaxInt, math.MinInt} {
		for i := range 8 {
			for _, of := range [][]int{{0, 0, 2, 0, 0, 2, 2, 2}, {0, 0, 0, 0, 0, 0, 0, 0}} {
				of[i] = wrong
				l := places(of...)
				inside, e := mesh.InCircle([3]api.MeshPoint(l[:3]), l[3])
				wantError(t, fmt.Sprint(of), inside, e, api.ErrRange)
			}
		}
	}
}

func TestP6_1Hull(t *testing.T) {
	for what, l := range pointSets() {
		corners, e := mesh.Hull(l)
		want(t, what, corners, e, hullOf(l), api.OK)
	}
	corners, e := mesh.Hull(square().Points)
	want(t, "the example", corners, e, []int{0, 1, 2, 3}, api.OK)
	corners, e = mesh.Hull(places(4, 4, 2, 4, 0, 4, 0, 0, 0, 2, 4, 0, 3, 0))
	want(t, "others at the border", corners, e, []int{3, 5, 0, 2}, api.OK)
	corners, e = mesh.Hull(places(1, 9, 0, 5, 0, 7, 0, 6, 3, 3))
	want(t, "several of the least X", corners, e, []int{1, 4, 0, 2}, api.OK)
	r := numbers{4}
	for i := range 500 {
		l := r.points(3+r.below(38), 4+i/2)
		corners, e := mesh.Hull(l)
		want(t, fmt.Sprint(l), corners, e, hullOf(l), api.OK)
	}
}

func TestP6_1HullErrors(t *testing.T) {
	for what, x := range wrongPoints() {
		corners, e := mesh.Hull(x.x)
		wantError(t, what, corners, e, x.e)
	}
	for what, l := range onALine() {
		corners, e := mesh.Hull(l)
		wantError(t, what, corners, e, api.ErrRank)
	}
}

// onALine are points that have no hull.
func onALine() map[string][]api.MeshPoint {
	r := numbers{5}
	sets := map[string][]api.MeshPoint{
		"no points":  nil,
		"one point":  places(3, 4),
		"two points": places(3, 4, 4, 3),
		"level":      places(0, 7, 3, 7, -5, 7, 1, 7),
		"upright":    places(7, 0, 7, 3, 7, -5, 7, 1),
		"far":        places(-10000, -10000, 10000, 10000, 9999, 9999),
		"downwards":  places(-10000, 10000, 10000, -10000, 0, 0, 1, -1),
	}
	var line []api.MeshPoint
	for i := range 40 {
		line = append(line, api.MeshPoint{X: 3 * i, Y: 50 - 7*i})
	}
	sets["40 points"] = line
	sets["40 points, mixed"] = shuffled(&r, line)
	sets["40 points, from the right"] = slices.Clone(line)
	slices.Reverse(sets["40 points, from the right"])
	return sets
}
