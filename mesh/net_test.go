package mesh_test

import (
	"fmt"
	"maps"
	"slices"
	"testing"

	"swath/api"
	"swath/mesh"
)

func TestP6_3CheckNet(t *testing.T) {
	for what, n := range anyNets() {
		number, e := mesh.CheckNet(n)
		want(t, what, number, e, 0, api.OK)
		if !isRight(n) {
			t.Error(what, "is not right")
		}
	}
	for what, x := range wrongNets() {
		number, e := mesh.CheckNet(x.x)
		want(t, what, number, e, x.number, x.e)
	}
}

// The order of the points, and where they are, do not matter for what is right.
func TestP6_3CheckNetOfMixedPoints(t *testing.T) {
	r := numbers{8}
	for range 100 {
		n := square()
		order := shuffled(&r, []int{0, 1, 2, 3, 4})
		m := api.MeshNet{Points: make([]api.MeshPoint, 5)}
		for i, p := range n.Points {
			m.Points[order[i]] = p
		}
		for _, c := range n.Triangles {
			m.Triangles = append(m.Triangles, leastFirst([3]int{order[c[0]], order[c[1]], order[c[2]]}))
		}
		slices.SortFunc(m.Triangles, func(a, b [3]int) int { return slices.Compare(a[:], b[:]) })
		number, e := mesh.CheckNet(m)
		want(t, fmt.Sprint(m), number, e, 0, api.OK)
		for i := range m.Triangles {
			without := m
			without.Triangles = slices.Delete(slices.Clone(m.Triangles), i, i+1)
			number, e := mesh.CheckNet(without)
			right, f := netError(without)
			want(t, fmt.Sprint(without), number, e, right, f)
		}
	}
}

func leastFirst(c [3]int) [3]int {
	for c[0] != min(c[0], c[1], c[2]) {
		c = [3]int{c[1], c[2], c[0]}
	}
	return c
}

// netError finds the error of triangles by the definitions; the points are right.
func netError(n api.MeshNet) (int, api.Errno) {
	for i, c := range n.Triangles {
		if slices.ContainsFunc(c[:], func(p int) bool { return p < 0 || p >= len(n.Points) }) {
			return i, api.ErrMissing
		}
		if c[0] >= c[1] || c[0] >= c[2] || i > 0 && slices.Compare(c[:], n.Triangles[i-1][:]) <= 0 {
			return i, api.ErrOrder
		}
		if turnOf(n.Points[c[0]], n.Points[c[1]], n.Points[c[2]]) <= 0 {
			return i, api.ErrClash
		}
		earlier := api.MeshNet{Triangles: n.Triangles[:i]}
		if leftOf(earlier, c[0], c[1]) >= 0 || leftOf(earlier, c[1], c[2]) >= 0 || leftOf(earlier, c[2], c[0]) >= 0 {
			return i, api.ErrDouble
		}
	}
	if slices.ContainsFunc(n.Triangles, func(c [3]int) bool { return isOpen(n, c) }) {
		return 0, api.ErrOpen
	}
	if !isRight(n) {
		return 0, api.ErrGap
	}
	return 0, api.OK
}

// isOpen tells whether a triangle has an edge with nothing behind it, though there are points.
func isOpen(n api.MeshNet, c [3]int) bool {
	for i, from := range c {
		to := c[(i+1)%3]
		right := func(p api.MeshPoint) bool { return turnOf(n.Points[from], n.Points[to], p) < 0 }
		if leftOf(n, to, from) < 0 && slices.ContainsFunc(n.Points, right) {
			return true
		}
	}
	return false
}

// Nets in which something is changed have the first error that applies.
func TestP6_3CheckNetOfChangedNets(t *testing.T) {
	r := numbers{9}
	nets := anyNets()
	found := map[api.Errno]int{}
	for _, what := range slices.Sorted(maps.Keys(nets)) {
		for range 25 {
			n := changed(&r, nets[what])
			number, e := mesh.CheckNet(n)
			right, f := netError(n)
			want(t, fmt.Sprint(what, n), number, e, right, f)
			found[f]++
		}
	}
	for _, e := range []api.Errno{api.OK, api.ErrMissing, api.ErrOrder, api.ErrClash, api.ErrDouble, api.ErrOpen, api.ErrGap} {
		if found[e] == 0 {
			t.Error("no net has the error", e)
		}
	}
}

func changed(r *numbers, n api.MeshNet) api.MeshNet {
	n = api.MeshNet{Points: slices.Clone(n.Points), Triangles: slices.Clone(n.Triangles)}
	i := r.below(len(n.Triangles))
	switch r.below(7) {
	case 0:
		n.Triangles[i][r.below(3)] = r.within(len(n.Points))
	case 1:
		n.Triangles = slices.Delete(n.Triangles, i, i+1)
	case 2:
		n.Triangles[i][1], n.Triangles[i][2] = n.Triangles[i][2], n.Triangles[i][1]
	case 3:
		n.Triangles[i][r.below(3)] = r.below(len(n.Points))
		sortTriangles(&n)
	case 4:
		n.Points = n.Points[:len(n.Points)-1]
	case 5:
		n.Points[r.below(len(n.Points))].X += r.within(3)
	case 6:
		n.Triangles = append(n.Triangles, [3]int{r.below(len(n.Points)), r.below(len(n.Points)), r.below(len(n.Points))})
		sortTriangles(&n)
	}
	if slices.ContainsFunc(n.Points, func(p api.MeshPoint) bool { return max(p.X, -p.X) > 10000 }) || repeats(n.Points) {
		return square()
	}
	return n
}

func sortTriangles(n *api.MeshNet) {
	for i, c := range n.Triangles {
		n.Triangles[i] = leastFirst(c)
	}
	slices.SortFunc(n.Triangles, func(a, b [3]int) int { return slices.Compare(a[:], b[:]) })
}

func repeats(l []api.MeshPoint) bool {
	for i, p := range l {
		if slices.Contains(l[:i], p) {
			return true
		}
	}
	return false
}

func TestP6_3EdgesAndSides(t *testing.T) {
	edges, e := mesh.Edges(square())
	want(t, "edges of the example", edges, e, [][2]int{{0, 1}, {0, 3}, {0, 4}, {1, 2}, {1, 4}, {2, 3}, {2, 4}, {3, 4}}, api.OK)
	sides, e := mesh.Sides(square())
	want(t, "sides of the example", sides, e, [][2]int{{0, -1}, {-1, 1}, {1, 0}, {2, -1}, {0, 2}, {3, -1}, {2, 3}, {3, 1}}, api.OK)
	for what, n := range anyNets() {
		edges, e := mesh.Edges(n)
		want(t, what, edges, e, edgesOf(n), api.OK)
		var right [][2]int
		for _, edge := range edgesOf(n) {
			right = append(right, [2]int{leftOf(n, edge[0], edge[1]), leftOf(n, edge[1], edge[0])})
		}
		sides, e := mesh.Sides(n)
		want(t, what, sides, e, right, api.OK)
	}
	for what, x := range wrongNets() {
		edges, e := mesh.Edges(x.x)
		wantError(t, what+", edges", edges, e, x.e)
		sides, e := mesh.Sides(x.x)
		wantError(t, what+", sides", sides, e, x.e)
	}
}

func TestP6_3FirstIllegal(t *testing.T) {
	flat := api.MeshNet{Points: places(0, 0, 5, -1, 10, 0, 5, 1), Triangles: triples(0, 1, 2, 0, 2, 3)}
	edge, e := mesh.FirstIllegal(flat)
	want(t, "a flat one", edge, e, [2]int{0, 2}, api.OK)
	flat.Triangles = triples(0, 1, 3, 1, 2, 3)
	edge, e = mesh.FirstIllegal(flat)
	want(t, "a flat one, the other way", edge, e, [2]int{}, api.ErrNone)
	for _, numbers := range [][]int{{0, 1, 2, 0, 2, 3}, {0, 1, 3, 1, 2, 3}} {
		edge, e = mesh.FirstIllegal(api.MeshNet{Points: places(0, 0, 4, 0, 4, 4, 0, 4), Triangles: triples(numbers...)})
		want(t, "four on a circle", edge, e, [2]int{}, api.ErrNone)
	}
	edge, e = mesh.FirstIllegal(square())
	want(t, "the example", edge, e, [2]int{}, api.ErrNone)
	edge, e = mesh.FirstIllegal(single().Net)
	want(t, "one triangle", edge, e, [2]int{}, api.ErrNone)
	illegal := 0
	for what, n := range anyNets() {
		right, f := illegalOf(n)
		edge, e := mesh.FirstIllegal(n)
		want(t, what, edge, e, right, f)
		if f == api.OK {
			illegal++
		}
	}
	if illegal < 20 {
		t.Error("only", illegal, "nets are illegal")
	}
	for what, x := range wrongNets() {
		edge, e := mesh.FirstIllegal(x.x)
		wantError(t, what, edge, e, x.e)
	}
}

// illegalOf looks at the edges one by one, from both sides.
func illegalOf(n api.MeshNet) ([2]int, api.Errno) {
	for _, edge := range edgesOf(n) {
		left, right := leftOf(n, edge[0], edge[1]), leftOf(n, edge[1], edge[0])
		if left < 0 || right < 0 {
			continue
		}
		for _, p := range n.Triangles[right] {
			c := n.Triangles[left]
			if insideOf(n.Points[c[0]], n.Points[c[1]], n.Points[c[2]], n.Points[p]) > 0 {
				return edge, api.OK
			}
		}
	}
	return [2]int{}, api.ErrNone
}

func TestP6_3Components(t *testing.T) {
	r := numbers{10}
	for _, x := range []struct {
		kept []int
		of   []int
	}{
		{nil, []int{0, 1, 2, 3, 4}}, {[]int{0}, []int{0, 0, 2, 3, 4}}, {[]int{7}, []int{0, 1, 2, 3, 3}}, {[]int{7, 6}, []int{0, 1, 2, 2, 2}},
		{[]int{7, 6, 4}, []int{0, 1, 1, 1, 1}}, {[]int{7, 6, 4, 0}, []int{0, 0, 0, 0, 0}}, {[]int{1, 3}, []int{0, 1, 1, 0, 4}}, {[]int{5, 3}, []int{0, 1, 1, 1, 4}}, {[]int{2, 5}, []int{0, 1, 2, 2, 0}},
	} {
		kept := make([]bool, 8)
		for _, edge := range x.kept {
			kept[edge] = true
		}
		of, e := mesh.Components(square(), kept)
		want(t, fmt.Sprint(x.kept), of, e, x.of, api.OK)
	}
	nets := anyNets()
	for _, what := range slices.Sorted(maps.Keys(nets)) {
		n := nets[what]
		for _, odds := range []int{1, 2, 3, 4, 5, 8} {
			var kept []bool
			for range edgesOf(n) {
				kept = append(kept, r.below(odds) == 0)
			}
			of, e := mesh.Components(n, kept)
			want(t, what, of, e, componentsOf(n, kept), api.OK)
		}
	}
}

// componentsOf goes on from the least point of each component.
func componentsOf(n api.MeshNet, kept []bool) []int {
	of := slices.Repeat([]int{-1}, len(n.Points))
	edges := edgesOf(n)
	for least := range of {
		if of[least] >= 0 {
			continue
		}
		of[least] = least
		for todo := []int{least}; len(todo) > 0; todo = todo[1:] {
			for i, edge := range edges {
				if other := edge[0] + edge[1] - todo[0]; kept[i] && slices.Contains(edge[:], todo[0]) && of[other] < 0 {
					of[other] = least
					todo = append(todo, other)
				}
			}
		}
	}
	return of
}

func TestP6_3ComponentsErrors(t *testing.T) {
	for what, x := range wrongNets() {
		of, e := mesh.Components(x.x, make([]bool, 500))
		wantError(t, what, of, e, x.e)
	}
	for _, edges := range []int{0, 1, 7, 9, 100} {
		of, e := mesh.Components(square(), make([]bool, edges))
		wantError(t, fmt.Sprint(edges, " edges"), of, e, api.ErrShape)
	}
}

func TestP6_11AllEdgesKept(t *testing.T) {
	for what, n := range anyNets() {
		of, e := mesh.Components(n, slices.Repeat([]bool{true}, len(edgesOf(n))))
		want(t, what, of, e, make([]int, len(n.Points)), api.OK)
		of, e = mesh.Components(n, make([]bool, len(edgesOf(n))))
		for i, least := range of {
			if least != i || e != api.OK {
				t.Errorf("%s: %v with no edge, error %d", what, of, e)
			}
		}
	}
}
