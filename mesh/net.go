package mesh

import (
	"slices"

	"swath/api"
)

const outside = -1

// triangles know which of them is at the left of each directed edge.
type triangles struct {
	list [][3]int
	left map[[2]int]int
}

// A net is points that are joined by triangles.
type net struct {
	points
	triangles
}

// CheckNet returns the number of the first wrong triangle of a net, and the error of the net.
func CheckNet(n api.MeshNet) (int, api.Errno) {
	_, number, e := read(n)
	return number, e
}

// FirstIllegal returns the first edge with a far corner inside the circle on its other side.
func FirstIllegal(n api.MeshNet) ([2]int, api.Errno) {
	m, e := right(n)
	if e != api.OK {
		return [2]int{}, e
	}
	for _, edge := range m.edges() {
		if m.isIllegal(edge) {
			return edge, api.OK
		}
	}
	return [2]int{}, api.ErrNone
}

// Edges returns the edges of a net.
func Edges(n api.MeshNet) ([][2]int, api.Errno) {
	m, e := right(n)
	if e != api.OK {
		return nil, e
	}
	return m.edges(), api.OK
}

// Sides returns the triangles at the left and at the right of each edge.
func Sides(n api.MeshNet) ([][2]int, api.Errno) {
	m, e := right(n)
	if e != api.OK {
		return nil, e
	}
	return m.sides(), api.OK
}

// Components returns, for each point, the least one that it is joined with by edges that are kept.
func Components(n api.MeshNet, kept []bool) ([]int, api.Errno) {
	m, e := right(n)
	if e != api.OK {
		return nil, e
	}
	edges := m.edges()
	if e := shapeError(len(kept), len(edges)); e != api.OK {
		return nil, e
	}
	least := make([]int, len(m.points))
	for i := range least {
		least[i] = i
	}
	for again := true; again; {
		again = false
		for i, edge := range edges {
			if a, b := &least[edge[0]], &least[edge[1]]; kept[i] && *a != *b {
				*a, *b = min(*a, *b), min(*a, *b)
				again = true
			}
		}
	}
	return least, api.OK
}

func empty(p []api.MeshPoint) net {
	return net{points(p), triangles{left: map[[2]int]int{}}}
}

// right returns a net that has no error.
func right(n api.MeshNet) (net, api.Errno) {
	m, _, e := read(n)
	return m, e
}

// read returns a net triangle by triangle, or what CheckNet returns.
func read(n api.MeshNet) (net, int, api.Errno) {
	if e := firstError(pointsError(n.Points), largeError(len(n.Triangles), api.MaxMeshTriangles)); e != api.OK {
		return net{}, 0, e
	}
	m := empty(n.Points)
	for i, corners := range n.Triangles {
		if e := m.triangleError(corners); e != api.OK {
			return net{}, i, e
		}
		m.add(corners)
	}
	if e := m.coverError(); e != api.OK {
		return net{}, 0, e
	}
	return m, 0, api.OK
}

// triangleError is the error of a triangle behind those that the net has.
func (n net) triangleError(corners [3]int) api.Errno {
	for _, corner := range corners {
		if corner < 0 || corner >= len(n.points) {
			return api.ErrMissing
		}
	}
	if corners[0] >= corners[1] || corners[0] >= corners[2] {
		return api.ErrOrder
	}
	if last := len(n.list) - 1; last >= 0 && slices.Compare(n.list[last][:], corners[:]) >= 0 {
		return api.ErrOrder
	}
	if n.turn(corners[0], corners[1], corners[2]) != 1 {
		return api.ErrClash
	}
	for _, edge := range directed(corners) {
		if n.at(edge[0], edge[1]) != outside {
			return api.ErrDouble
		}
	}
	return api.OK
}

// coverError tells whether the triangles cover the hull. If they do not go beyond its border, and each edge within it
// has triangles on both sides, all places in the hull are covered equally often, so that the areas tell whether it is
// once.
func (n net) coverError() api.Errno {
	for _, corners := range n.list {
		for _, edge := range directed(corners) {
			if n.at(edge[1], edge[0]) == outside && !n.isBorder(edge) {
				return api.ErrOpen
			}
		}
	}
	double := 0
	lonely := slices.Repeat([]bool{true}, len(n.points))
	for _, corners := range n.list {
		double += n.area(corners[:]...)
		for _, corner := range corners {
			lonely[corner] = false
		}
	}
	if len(n.list) == 0 || double != n.area(n.hull()...) || slices.Contains(lonely, true) {
		return api.ErrGap
	}
	return api.OK
}

// isBorder tells whether no point is at the right of a directed edge.
func (n net) isBorder(edge [2]int) bool {
	for p := range n.points {
		if n.turn(edge[0], edge[1], p) < 0 {
			return false
		}
	}
	return true
}

// isIllegal is false for an edge that has the outside on a side.
func (n net) isIllegal(edge [2]int) bool {
	left, right := n.at(edge[0], edge[1]), n.at(edge[1], edge[0])
	if left == outside || right == outside {
		return false
	}
	return n.circle(n.list[left], n.far(right, edge)) > 0
}

// at returns the triangle at the left of a directed edge.
func (t triangles) at(from, to int) int {
	if number, is := t.left[[2]int{from, to}]; is {
		return number
	}
	return outside
}

// far returns the corner of a triangle that is not on one of its edges.
func (t triangles) far(number int, edge [2]int) int {
	corners := t.list[number]
	return corners[0] + corners[1] + corners[2] - edge[0] - edge[1]
}

func (t *triangles) add(corners [3]int) {
	t.list = append(t.list, corners)
	t.put(len(t.list)-1, corners)
}

// put makes a triangle the one with a number. What the earlier one with it had at its left must be put anew.
func (t *triangles) put(number int, corners [3]int) {
	t.list[number] = corners
	for _, edge := range directed(corners) {
		t.left[edge] = number
	}
}

// edges returns each edge once, its lesser point first.
func (t triangles) edges() [][2]int {
	var edges [][2]int
	for _, corners := range t.list {
		for _, edge := range directed(corners) {
			edges = append(edges, [2]int{min(edge[0], edge[1]), max(edge[0], edge[1])})
		}
	}
	slices.SortFunc(edges, func(a, b [2]int) int { return slices.Compare(a[:], b[:]) })
	return slices.Compact(edges)
}

func (t triangles) sides() [][2]int {
	var sides [][2]int
	for _, edge := range t.edges() {
		sides = append(sides, [2]int{t.at(edge[0], edge[1]), t.at(edge[1], edge[0])})
	}
	return sides
}

func directed(corners [3]int) [3][2]int {
	a, b, c := corners[0], corners[1], corners[2]
	return [3][2]int{{a, b}, {b, c}, {c, a}}
}
