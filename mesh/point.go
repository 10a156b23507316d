package mesh

import (
	"cmp"
	"slices"

	"swath/api"
)

// points are known by their numbers.
type points []api.MeshPoint

// CheckPoints returns the number of the first wrong point, and its error.
func CheckPoints(l []api.MeshPoint) (int, api.Errno) {
	if len(l) > api.MaxMeshPoints {
		return 0, api.ErrLarge
	}
	for i, p := range l {
		if e := firstError(placeError(p), existsError(p, l[:i])); e != api.OK {
			return i, e
		}
	}
	return 0, api.OK
}

// Turn returns 1 if three points are counterclockwise, -1 if they are clockwise, 0 if they lie on a line.
func Turn(a, b, c api.MeshPoint) (int, api.Errno) {
	if e := placeError(a, b, c); e != api.OK {
		return 0, e
	}
	return points{a, b, c}.turn(0, 1, 2), api.OK
}

// InCircle returns 1 if a point lies inside the circle through three others, 0 if on it, -1 if outside.
func InCircle(t [3]api.MeshPoint, d api.MeshPoint) (int, api.Errno) {
	if e := placeError(t[0], t[1], t[2], d); e != api.OK {
		return 0, e
	}
	p := points{t[0], t[1], t[2], d}
	turn := p.turn(0, 1, 2)
	if turn == 0 {
		return 0, api.ErrRank
	}
	return turn * p.circle([3]int{0, 1, 2}, 3), api.OK
}

// Hull returns the corners of the hull, counterclockwise.
func Hull(l []api.MeshPoint) ([]int, api.Errno) {
	if e := pointsError(l); e != api.OK {
		return nil, e
	}
	corners := points(l).hull()
	if len(corners) < 3 {
		return nil, api.ErrRank
	}
	return corners, api.OK
}

// placeError looks through the places of any number of points.
func placeError(l ...api.MeshPoint) api.Errno {
	for _, p := range l {
		if e := rangesError([]int{p.X, p.Y}, -api.MaxMeshPlace, api.MaxMeshPlace); e != api.OK {
			return e
		}
	}
	return api.OK
}

func existsError(p api.MeshPoint, earlier []api.MeshPoint) api.Errno {
	for _, q := range earlier {
		if p == q {
			return api.ErrExists
		}
	}
	return api.OK
}

func pointsError(l []api.MeshPoint) api.Errno {
	_, e := CheckPoints(l)
	return e
}

// area is the double area of the polygon with such corners, below 0 if they are clockwise.
func (p points) area(corners ...int) int {
	double := 0
	for i, b := range corners {
		a := corners[(i+len(corners)-1)%len(corners)]
		double += p[a].X*p[b].Y - p[b].X*p[a].Y
	}
	return double
}

func (p points) turn(a, b, c int) int {
	return cmp.Compare(p.area(a, b, c), 0)
}

// circle is 1 if a point lies inside the circle through three counterclockwise ones, 0 if on it, -1 if outside.
func (p points) circle(t [3]int, d int) int {
	sum := 0
	for i, a := range t {
		sum += p.square(a, d) * p.area(d, t[(i+1)%3], t[(i+2)%3])
	}
	return cmp.Compare(sum, 0)
}

// square is the square of the distance of two points.
func (p points) square(a, b int) int {
	x, y := p[a].X-p[b].X, p[a].Y-p[b].Y
	return x*x + y*y
}

// order returns all points by X, those of one X by Y.
func (p points) order() []int {
	order := make([]int, len(p))
	for i := range order {
		order[i] = i
	}
	slices.SortFunc(order, func(a, b int) int {
		return cmp.Or(cmp.Compare(p[a].X, p[b].X), cmp.Compare(p[a].Y, p[b].Y))
	})
	return order
}

// hull returns the corners of the hull, fewer than three if all points lie on a line.
func (p points) hull() []int {
	order := p.order()
	below := p.chain(order)
	slices.Reverse(order)
	return append(below, p.chain(order)...)
}

// chain returns the points that a way along others leaves to its left, without the last one, at which another chain
// begins.
func (p points) chain(order []int) []int {
	var corners []int
	for _, next := range order {
		last := len(corners) - 1
		for last > 0 && p.turn(corners[last-1], corners[last], next) <= 0 {
			corners = corners[:last]
			last--
		}
		corners = append(corners, next)
	}
	return corners[:max(len(corners)-1, 0)]
}
