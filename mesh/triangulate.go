package mesh

import (
	"slices"

	"swath/api"
)

// Triangulate returns the triangles of a legal net of points.
func Triangulate(l []api.MeshPoint) ([][3]int, api.Errno) {
	if e := pointsError(l); e != api.OK {
		return nil, e
	}
	n := empty(l)
	n.cover()
	if len(n.list) == 0 {
		return nil, api.ErrRank
	}
	for again := true; again; {
		again = n.legalize()
	}
	for i, corners := range n.list {
		n.list[i] = leastFirst(corners)
	}
	slices.SortFunc(n.list, func(a, b [3]int) int { return slices.Compare(a[:], b[:]) })
	return n.list, api.OK
}

// cover makes triangles of the points from the left to the right. The first ones may lie on a line: these are joined
// with the first point that does not.
func (n *net) cover() {
	order := n.order()
	on := 2
	for on < len(order) && n.turn(order[0], order[1], order[on]) == 0 {
		on++
	}
	if on >= len(order) {
		return
	}
	for i := range on - 1 {
		n.join(order[i], order[i+1], order[on])
	}
	for _, p := range order[on+1:] {
		n.reach(p)
	}
}

func (n *net) join(a, b, c int) {
	if n.turn(a, b, c) < 0 {
		a, b = b, a
	}
	n.add([3]int{a, b, c})
}

// reach joins a point outside with the edges of the border that it sees, those that it is at the right of.
func (n *net) reach(p int) {
	for _, edge := range n.edges() {
		a, b := edge[0], edge[1]
		if n.at(a, b) == outside {
			a, b = b, a
		}
		if n.at(b, a) == outside && n.turn(a, b, p) < 0 {
			n.add([3]int{b, a, p})
		}
	}
}

// legalize flips the edges that are illegal, and tells whether there were any. A flip may make other edges illegal, but
// as none is made a second time, there is an end.
func (n *net) legalize() bool {
	flipped := false
	for _, edge := range n.edges() {
		if n.isIllegal(edge) {
			n.flip(edge)
			flipped = true
		}
	}
	return flipped
}

// flip joins the far corners of an edge instead of its points.
func (n *net) flip(edge [2]int) {
	a, b := edge[0], edge[1]
	left, right := n.at(a, b), n.at(b, a)
	c, d := n.far(left, edge), n.far(right, edge)
	delete(n.left, [2]int{a, b})
	delete(n.left, [2]int{b, a})
	n.put(left, [3]int{a, d, c})
	n.put(right, [3]int{d, b, c})
}

// leastFirst goes around a triangle from its least point.
func leastFirst(corners [3]int) [3]int {
	for corners[0] > min(corners[1], corners[2]) {
		corners[0], corners[1], corners[2] = corners[1], corners[2], corners[0]
	}
	return corners
}
