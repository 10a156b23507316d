package mesh_test

import (
	"fmt"
	"testing"

	"swath/api"
	"swath/mesh"
)

// triangulated calls Triangulate and checks that the net is right and legal.
func triangulated(t *testing.T, what string, l []api.MeshPoint) api.MeshNet {
	t.Helper()
	triangles, e := mesh.Triangulate(l)
	n := api.MeshNet{Points: l, Triangles: triangles}
	if e != api.OK || !isRight(n) {
		t.Fatalf("%s: error %d, triangles %v", what, e, triangles)
	}
	if edge, e := illegalOf(n); e != api.ErrNone {
		t.Errorf("%s: the edge %v is illegal in %v", what, edge, triangles)
	}
	return n
}

func TestP6_3Triangulate(t *testing.T) {
	for what, l := range pointSets() {
		triangulated(t, what, l)
	}
	triangles, e := mesh.Triangulate(square().Points)
	want(t, "the example", triangles, e, square().Triangles, api.OK)
	triangles, e = mesh.Triangulate(places(0, 0, 0, 1, 1, 0))
	want(t, "clockwise points", triangles, e, triples(0, 2, 1), api.OK)
	triangles, e = mesh.Triangulate(places(0, 0, 5, -1, 10, 0, 5, 1))
	want(t, "a flat one", triangles, e, triples(0, 1, 3, 1, 2, 3), api.OK)
	triangles, e = mesh.Triangulate(places(0, 0, 1, 0, 2, 0, 3, 0, 1, 1))
	want(t, "four on a line", triangles, e, triples(0, 1, 4, 1, 2, 4, 2, 3, 4), api.OK)
	r := numbers{11}
	for i := range 400 {
		l := r.points(3+i%38, 4+i%13*i)
		triangulated(t, fmt.Sprint(l), l)
	}
}

func TestP6_3TriangulateErrors(t *testing.T) {
	for what, x := range wrongPoints() {
		triangles, e := mesh.Triangulate(x.x)
		wantError(t, what, triangles, e, x.e)
	}
	for what, l := range onALine() {
		triangles, e := mesh.Triangulate(l)
		wantError(t, what, triangles, e, api.ErrRank)
	}
}

func TestP6_7EmptyCircles(t *testing.T) {
	for what, l := range pointSets() {
		n := triangulated(t, what, l)
		number, e := mesh.CheckNet(n)
		want(t, what, number, e, 0, api.OK)
		edge, e := mesh.FirstIllegal(n)
		want(t, what, edge, e, [2]int{}, api.ErrNone)
		for _, c := range n.Triangles {
			for _, p := range l {
				inside, e := mesh.InCircle([3]api.MeshPoint{l[c[0]], l[c[1]], l[c[2]]}, p)
				if inside > 0 || e != api.OK {
					t.Errorf("%s: %v lies in the circle of %v, error %d", what, p, c, e)
				}
			}
		}
	}
}

func TestP6_8Covering(t *testing.T) {
	nets := anyNets()
	for what, l := range pointSets() {
		nets[what+", triangulated"] = triangulated(t, what, l)
	}
	for what, n := range nets {
		points, border := len(n.Points), onBorder(n.Points)
		edges, e := mesh.Edges(n)
		want(t, what, [2]int{len(n.Triangles), len(edges)}, e, [2]int{2*points - border - 2, 3*points - border - 3}, api.OK)
		sides, e := mesh.Sides(n)
		open := 0
		for _, side := range sides {
			if min(side[0], side[1]) < 0 {
				open++
			}
		}
		want(t, what+", border", open, e, border, api.OK)
	}
}
