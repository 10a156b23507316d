package mesh_test

import (
	"fmt"
	"maps"
	"math"
	"math/big"
	"slices"
	"testing"

	"swath/api"
)

// want compares a result and an error with those that are right. A nil slice and an empty one are the same, as they
// are written alike.
func want[T any](t *testing.T, what string, got T, e api.Errno, right T, rightError api.Errno) {
	t.Helper()
	if e != rightError {
		t.Errorf("%s: error %d, want %d", what, e, rightError)
	}
	if fmt.Sprint(got) != fmt.Sprint(right) {
		t.Errorf("%s: %v, want %v", what, got, right)
	}
}

// wantError checks an error, and that a result beside one is zero.
func wantError[T any](t *testing.T, what string, got T, e api.Errno, right api.Errno) {
	t.Helper()
	if e != right {
		t.Errorf("%s: error %d, want %d", what, e, right)
	}
	zeroBeside(t, what, got, e)
}

func zeroBeside[T any](t *testing.T, what string, got T, e api.Errno) {
	t.Helper()
	var zero T
	if e != api.OK && fmt.Sprint(got) != fmt.Sprint(zero) {
		t.Errorf("%s: %v beside the error %d", what, got, e)
	}
}

// places returns points with such X and Y.
func places(numbers ...int) []api.MeshPoint {
	var l []api.MeshPoint
	for of := range slices.Chunk(numbers, 2) {
		l = append(l, api.MeshPoint{X: of[0], Y: of[1]})
	}
	return l
}

// triples returns triangles with such points.
func triples(numbers ...int) [][3]int {
	var l [][3]int
	for of := range slices.Chunk(numbers, 3) {
		l = append(l, [3]int(of))
	}
	return l
}

// square is the net of the chapter's first example.
func square() api.MeshNet {
	return api.MeshNet{Points: places(0, 0, 4, 0, 4, 4, 0, 4, 1, 2), Triangles: triples(0, 1, 4, 0, 4, 3, 1, 2, 4, 2, 3, 4)}
}

// single is the task of the chapter's fifth example with other costs.
func single(costs ...int) api.MeshTask {
	n := api.MeshNet{Points: places(0, 0, 4, 0, 0, 4), Triangles: triples(0, 1, 2)}
	return api.MeshTask{Net: n, Phases: []int{0, 1500, -1500}, Costs: costs}
}

// numbers yields the same numbers in each run, below a bound.
type numbers struct{ state uint64 }

func (r *numbers) below(n int) int {
	r.state = r.state*6364136223846793005 + 1442695040888963407
	return int(r.state>>33) % n
}

// within returns a number from -most to most.
func (r *numbers) within(most int) int { return r.below(2*most+1) - most }

func (r *numbers) list(n, least, most int) []int {
	var l []int
	for range n {
		l = append(l, least+r.below(most-least+1))
	}
	return l
}

// points returns different points, not all on a line, for n of at least 3.
func (r *numbers) points(n, most int) []api.MeshPoint {
	for {
		var l []api.MeshPoint
		for len(l) < n {
			if p := (api.MeshPoint{X: r.within(most), Y: r.within(most)}); !slices.Contains(l, p) {
				l = append(l, p)
			}
		}
		if len(hullOf(l)) > 0 {
			return l
		}
	}
}

// shuffled returns items in another order.
func shuffled[T any](r *numbers, l []T) []T {
	l = slices.Clone(l)
	for i := range l {
		j := r.below(i + 1)
		l[i], l[j] = l[j], l[i]
	}
	return l
}

// net joins points by edges anywhere, as long as an edge has room, so that any right net may come out.
func (r *numbers) net(l []api.MeshPoint) api.MeshNet {
	var pairs, edges [][2]int
	for i := range l {
		for j := range i {
			pairs = append(pairs, [2]int{j, i})
		}
	}
	joined := map[[2]int]bool{}
	for _, pair := range shuffled(r, pairs) {
		if !passes(l, pair) && !slices.ContainsFunc(edges, func(edge [2]int) bool { return cross(l, pair, edge) }) {
			edges = append(edges, pair)
			joined[pair] = true
		}
	}
	n := api.MeshNet{Points: l}
	for i := range l {
		for j := i + 1; j < len(l); j++ {
			for k := i + 1; k < len(l); k++ {
				face := [3]int{i, j, k}
				if joined[[2]int{i, j}] && joined[[2]int{i, k}] && joined[[2]int{min(j, k), max(j, k)}] && turnOf(l[i], l[j], l[k]) > 0 && !holds(l, face) {
					n.Triangles = append(n.Triangles, face)
				}
			}
		}
	}
	return n
}

// task returns a task with phases anywhere.
func (r *numbers) task(n api.MeshNet, cost int) api.MeshTask {
	return api.MeshTask{Net: n, Phases: r.list(len(n.Points), -2048, 2047), Costs: r.list(len(edgesOf(n)), 0, cost)}
}

// passes tells whether a point lies between two others, on the line through them.
func passes(l []api.MeshPoint, pair [2]int) bool {
	a, b := l[pair[0]], l[pair[1]]
	return slices.ContainsFunc(l, func(c api.MeshPoint) bool {
		return turnOf(a, b, c) == 0 && (a.X-c.X)*(b.X-c.X)+(a.Y-c.Y)*(b.Y-c.Y) < 0
	})
}

// cross tells whether two edges have a place in common that is no end of both.
func cross(l []api.MeshPoint, e, f [2]int) bool {
	a, b, c, d := l[e[0]], l[e[1]], l[f[0]], l[f[1]]
	return turnOf(a, b, c)*turnOf(a, b, d) < 0 && turnOf(c, d, a)*turnOf(c, d, b) < 0
}

// holds tells whether a counterclockwise triangle has a point in it or on its border, beside its corners.
func holds(l []api.MeshPoint, corners [3]int) bool {
	a, b, c := l[corners[0]], l[corners[1]], l[corners[2]]
	return slices.ContainsFunc(l, func(p api.MeshPoint) bool {
		return p != a && p != b && p != c && turnOf(a, b, p) >= 0 && turnOf(b, c, p) >= 0 && turnOf(c, a, p) >= 0
	})
}

// areaOf is the double area of three points, below 0 if they are clockwise.
func areaOf(a, b, c api.MeshPoint) int {
	return (b.X-a.X)*(c.Y-a.Y) - (b.Y-a.Y)*(c.X-a.X)
}

func turnOf(a, b, c api.MeshPoint) int {
	switch double := areaOf(a, b, c); {
	case double > 0:
		return 1
	case double < 0:
		return -1
	}
	return 0
}

// insideOf compares the distances of a point and of a corner from the centre of a circle.
func insideOf(a, b, c, d api.MeshPoint) int {
	bx, by, cx, cy := int64(b.X-a.X), int64(b.Y-a.Y), int64(c.X-a.X), int64(c.Y-a.Y)
	whole := 2 * (bx*cy - by*cx)
	x := big.NewRat(cy*(bx*bx+by*by)-by*(cx*cx+cy*cy), whole)
	y := big.NewRat(bx*(cx*cx+cy*cy)-cx*(bx*bx+by*by), whole)
	square := func(x, y *big.Rat) *big.Rat {
		return new(big.Rat).Add(new(big.Rat).Mul(x, x), new(big.Rat).Mul(y, y))
	}
	toX := new(big.Rat).Sub(x, big.NewRat(int64(d.X-a.X), 1))
	toY := new(big.Rat).Sub(y, big.NewRat(int64(d.Y-a.Y), 1))
	return square(x, y).Cmp(square(toX, toY))
}

// hullOf goes from the first corner to the one that has all points on its left, and on from there. It returns nothing if
// all points lie on a line.
func hullOf(l []api.MeshPoint) []int {
	if len(l) == 0 {
		return nil
	}
	first := 0
	for i, p := range l {
		if p.X < l[first].X || p.X == l[first].X && p.Y < l[first].Y {
			first = i
		}
	}
	corners := []int{first}
	for {
		at := corners[len(corners)-1]
		next := slices.IndexFunc(l, func(b api.MeshPoint) bool { return b != l[at] && isNext(l, l[at], b) })
		if next < 0 || next == first {
			break
		}
		corners = append(corners, next)
	}
	if len(corners) < 3 {
		return nil
	}
	return corners
}

// isNext tells whether all points are at the left of the edge from a to b, or on it.
func isNext(l []api.MeshPoint, a, b api.MeshPoint) bool {
	return !slices.ContainsFunc(l, func(c api.MeshPoint) bool {
		turn := turnOf(a, b, c)
		return turn < 0 || turn == 0 && (a.X-c.X)*(b.X-c.X)+(a.Y-c.Y)*(b.Y-c.Y) > 0
	})
}

// hullArea is the double area of the hull, in triangles from its first corner.
func hullArea(l []api.MeshPoint) int {
	double := 0
	corners := hullOf(l)
	for i := 2; i < len(corners); i++ {
		double += areaOf(l[corners[0]], l[corners[i-1]], l[corners[i]])
	}
	return double
}

// onBorder counts the points that lie on the border of the hull.
func onBorder(l []api.MeshPoint) int {
	corners := hullOf(l)
	count := 0
	for _, p := range l {
		for i, corner := range corners {
			if turnOf(l[corner], l[corners[(i+1)%len(corners)]], p) == 0 {
				count++
				break
			}
		}
	}
	return count
}

// isRight tells by the definitions whether a net has no error: its triangles are written in the one way that there is,
// no edges cross, no point is in the way, and all of the hull is covered.
func isRight(n api.MeshNet) bool {
	double := 0
	seen := map[[2]int]bool{}
	used := map[int]bool{}
	for i, c := range n.Triangles {
		if c[0] >= c[1] || c[0] >= c[2] || i > 0 && slices.Compare(n.Triangles[i-1][:], c[:]) >= 0 {
			return false
		}
		area := areaOf(n.Points[c[0]], n.Points[c[1]], n.Points[c[2]])
		if area <= 0 || holds(n.Points, c) {
			return false
		}
		double += area
		for j, from := range c {
			used[from] = true
			edge := [2]int{from, c[(j+1)%3]}
			if seen[edge] {
				return false
			}
			seen[edge] = true
		}
	}
	edges := edgesOf(n)
	for _, e := range edges {
		if slices.ContainsFunc(edges, func(f [2]int) bool { return cross(n.Points, e, f) }) {
			return false
		}
	}
	return len(n.Triangles) > 0 && len(used) == len(n.Points) && double == hullArea(n.Points)
}

// edgesOf collects the edges of all triangles.
func edgesOf(n api.MeshNet) [][2]int {
	joined := map[[2]int]bool{}
	for _, c := range n.Triangles {
		for i, from := range c {
			to := c[(i+1)%3]
			joined[[2]int{min(from, to), max(from, to)}] = true
		}
	}
	return slices.SortedFunc(maps.Keys(joined), func(a, b [2]int) int { return slices.Compare(a[:], b[:]) })
}

// leftOf returns the triangle with a directed edge, -1 if there is none.
func leftOf(n api.MeshNet, from, to int) int {
	return slices.IndexFunc(n.Triangles, func(c [3]int) bool {
		return [2]int{c[0], c[1]} == [2]int{from, to} || [2]int{c[1], c[2]} == [2]int{from, to} || [2]int{c[2], c[0]} == [2]int{from, to}
	})
}

// wrappedOf takes turns away one by one, or adds them.
func wrappedOf(phase int) int {
	for phase > 2047 {
		phase -= 4096
	}
	for phase < -2048 {
		phase += 4096
	}
	return phase
}

// sumsOf returns, for each triangle, the sum of what its directed edges have.
func sumsOf(n api.MeshNet, of []int) []int {
	along := map[[2]int]int{}
	for i, edge := range edgesOf(n) {
		along[edge] = of[i]
		along[[2]int{edge[1], edge[0]}] = -of[i]
	}
	var sums []int
	for _, c := range n.Triangles {
		sums = append(sums, along[[2]int{c[0], c[1]}]+along[[2]int{c[1], c[2]}]+along[[2]int{c[2], c[0]}])
	}
	return sums
}

// differencesOf returns the difference of each edge.
func differencesOf(n api.MeshNet, phases []int) []int {
	var l []int
	for _, edge := range edgesOf(n) {
		l = append(l, wrappedOf(phases[edge[1]]-phases[edge[0]]))
	}
	return l
}

// closuresOf returns the closure of each triangle.
func closuresOf(n api.MeshNet, phases []int) []int {
	l := sumsOf(n, differencesOf(n, phases))
	for i := range l {
		l[i] /= 4096
	}
	return l
}

// turnsWith returns the turns that lead from phases to phases with so many turns more at each point.
func turnsWith(n api.MeshNet, phases, more []int) []int {
	turns := differencesOf(n, phases)
	for i, edge := range edgesOf(n) {
		a, b := edge[0], edge[1]
		turns[i] = (phases[b]-phases[a]-turns[i])/4096 + more[b] - more[a]
	}
	return turns
}

// costOf is the cost of turns by its definition.
func costOf(costs, turns []int) int {
	cost := 0
	for i, turn := range turns {
		if turn < 0 {
			turn = -turn
		}
		cost += costs[i] * turn
	}
	return cost
}

// wrong is an argument with the number beside its error, and the error.
type wrong[T any] struct {
	x      T
	number int
	e      api.Errno
}

func wrongPoints() map[string]wrong[[]api.MeshPoint] {
	r := numbers{71}
	return map[string]wrong[[]api.MeshPoint]{
		"41 points":             {r.points(41, 10000), 0, api.ErrLarge},
		"1000 wrong ones":       {slices.Repeat(places(20000, 0), 1000), 0, api.ErrLarge},
		"a great X":             {places(0, 0, 1, 0, 10001, 1), 2, api.ErrRange},
		"X below 0":             {places(0, 0, -10001, 0, 0, 1), 1, api.ErrRange},
		"a great Y":             {places(0, 10001, 1, 0, 0, 1), 0, api.ErrRange},
		"Y below 0":             {places(0, 0, 1, 0, 0, -10001), 2, api.ErrRange},
		"the least X":           {places(math.MinInt, 0, 1, 0, 0, 1), 0, api.ErrRange},
		"the greatest Y":        {places(0, 0, 1, math.MaxInt, 0, 1), 1, api.ErrRange},
		"a place again":         {places(0, 0, 1, 0, 0, 1, 1, 0, 1, 0), 3, api.ErrExists},
		"again at once":         {places(5, 7, 5, 7), 1, api.ErrExists},
		"a great one again":     {places(0, 0, 10001, 0, 10001, 0), 1, api.ErrRange},
		"again, and a great X":  {places(0, 0, 0, 0, 10001, 0), 1, api.ErrExists},
		"a great X, and again":  {places(0, 0, 10001, 0, 0, 0), 1, api.ErrRange},
		"the last of 40, again": {append(r.points(39, 10000)[:38], places(10000, 10000, 10000, 10000)...), 39, api.ErrExists},
	}
}

// wrongNets are nets with the triangle that CheckNet names.
func wrongNets() map[string]wrong[api.MeshNet] {
	l := places(0, 0, 4, 0, 4, 4, 0, 4)
	with := func(more []api.MeshPoint, numbers ...int) api.MeshNet {
		return api.MeshNet{Points: append(slices.Clone(l), more...), Triangles: triples(numbers...)}
	}
	nets := map[string]wrong[api.MeshNet]{
		"81 triangles":               {api.MeshNet{Points: l, Triangles: slices.Repeat(triples(0, 1, 2), 81)}, 0, api.ErrLarge},
		"no point":                   {with(nil, 0, 1, 2, 0, 2, 4), 1, api.ErrMissing},
		"a point below 0":            {with(nil, -1, 1, 2, 0, 2, 3), 0, api.ErrMissing},
		"the greatest int":           {with(nil, 0, 1, 2, 0, math.MaxInt, 3), 1, api.ErrMissing},
		"the least int":              {with(nil, 0, 1, 2, 0, 2, math.MinInt), 1, api.ErrMissing},
		"no points":                  {api.MeshNet{Triangles: triples(0, 1, 2)}, 0, api.ErrMissing},
		"a lesser second":            {with(nil, 0, 1, 2, 2, 0, 3), 1, api.ErrOrder},
		"a lesser third":             {with(nil, 0, 1, 2, 2, 3, 0), 1, api.ErrOrder},
		"an equal second":            {with(nil, 0, 0, 2), 0, api.ErrOrder},
		"an equal third":             {with(nil, 0, 1, 0), 0, api.ErrOrder},
		"a triangle again":           {with(nil, 0, 1, 2, 0, 1, 2), 1, api.ErrOrder},
		"a lesser triangle":          {with(nil, 0, 2, 3, 0, 1, 2), 1, api.ErrOrder},
		"a lesser third of three":    {with(nil, 0, 1, 3, 0, 1, 2), 1, api.ErrOrder},
		"a lesser first of three":    {with(nil, 1, 2, 3, 0, 1, 3), 1, api.ErrOrder},
		"clockwise":                  {with(nil, 0, 1, 2, 0, 3, 2), 1, api.ErrClash},
		"second and third equal":     {with(nil, 0, 1, 1), 0, api.ErrClash},
		"on a line":                  {with(places(2, 2), 0, 2, 4), 0, api.ErrClash},
		"the first edge again":       {with(nil, 0, 1, 2, 0, 1, 3), 1, api.ErrDouble},
		"the second edge again":      {with(nil, 0, 1, 2, 1, 2, 3), 1, api.ErrDouble},
		"the last edge again":        {with(nil, 0, 1, 3, 0, 2, 3), 1, api.ErrDouble},
		"an edge again, later":       {with(places(2, 1), 0, 1, 4, 0, 2, 3, 0, 4, 3), 2, api.ErrDouble},
		"an edge within, open":       {with(nil, 0, 1, 2), 0, api.ErrOpen},
		"the other one open":         {with(nil, 0, 2, 3), 0, api.ErrOpen},
		"open, and all points":       {with(places(2, 1), 0, 1, 4, 0, 4, 3, 1, 2, 4), 0, api.ErrOpen},
		"no triangles":               {with(nil), 0, api.ErrGap},
		"nothing":                    {api.MeshNet{}, 0, api.ErrGap},
		"points on a line":           {api.MeshNet{Points: places(0, 0, 1, 1, 2, 2)}, 0, api.ErrGap},
		"a lonely point":             {with(places(2, 1), 0, 1, 2, 0, 2, 3), 0, api.ErrGap},
		"a lonely one at the border": {with(places(2, 0), 0, 1, 2, 0, 2, 3), 0, api.ErrGap},
		"along an edge twice":        {with(nil, 0, 1, 2, 0, 1, 3, 0, 2, 3, 1, 2, 3), 1, api.ErrDouble},
		"clockwise, and twice":       {with(places(2, -1), 0, 1, 2, 0, 1, 4), 1, api.ErrClash},
		"an order, and a clash":      {with(nil, 0, 2, 3, 0, 2, 1), 1, api.ErrOrder},
		"a point, and an order":      {with(nil, 3, 2, 4), 0, api.ErrMissing},
		"a clash, and twice":         {with(nil, 0, 1, 2, 0, 2, 1, 5, 6, 7), 1, api.ErrClash},
		"an order, then no point":    {with(nil, 2, 0, 1, 0, 1, 9), 0, api.ErrOrder},
		"past a point within":        {with(places(2, -1, 2, 5, 2, 0), 0, 1, 2, 0, 2, 3, 0, 4, 1, 2, 5, 3), 0, api.ErrGap},
	}
	for what, x := range wrongPoints() {
		nets[what] = wrong[api.MeshNet]{api.MeshNet{Points: x.x, Triangles: triples(0, 1, 2, 5, 4, 3)}, 0, x.e}
		nets[what+", 81 triangles"] = wrong[api.MeshNet]{api.MeshNet{Points: x.x, Triangles: make([][3]int, 81)}, 0, x.e}
	}
	nets["two wheels"] = wrong[api.MeshNet]{twoWheels(), 0, api.ErrGap}
	return nets
}

// twoWheels has two wheels one over the other, one of which has more points of the border than the other. Each edge within
// has both sides, those of the border lie on it, and all points are used: only the areas tell that the hull is covered
// twice.
func twoWheels() api.MeshNet {
	l := places(0, 0, 10, 0, 10, 10, 0, 10, 5, 0, 10, 5, 5, 10, 0, 5, 4, 4, 6, 5)
	return api.MeshNet{Points: l, Triangles: triples(
		0, 1, 8, 0, 4, 9, 0, 8, 3, 0, 9, 7, 1, 2, 8, 1, 5, 9, 1, 9, 4, 2, 3, 8, 2, 6, 9, 2, 9, 5, 3, 7, 9, 3, 9, 6,
	)}
}

func wrongPhases() map[string]wrong[[]int] {
	return map[string]wrong[[]int]{
		"no phases":           {nil, 0, api.ErrShape},
		"a phase missing":     {[]int{0, 1, 2, 3}, 0, api.ErrShape},
		"a phase more":        {[]int{0, 1, 2, 3, 4, 5}, 0, api.ErrShape},
		"half a turn":         {[]int{0, 1, 2, 3, 2048}, 0, api.ErrRange},
		"more than half":      {[]int{-2049, 1, 2, 3, 4}, 0, api.ErrRange},
		"a void phase":        {[]int{0, 1, api.PhaseVoid, 3, 4}, 0, api.ErrRange},
		"the least phase":     {[]int{0, math.MinInt, 2, 3, 4}, 0, api.ErrRange},
		"the greatest phase":  {[]int{0, 1, 2, math.MaxInt, 4}, 0, api.ErrRange},
		"wrong, and one more": {[]int{5000, 1, 2, 3, 4, 5}, 0, api.ErrShape},
	}
}

// wrongTurns are those of the square, whose phases are all 0.
func wrongTurns() map[string]wrong[[]int] {
	with := func(turn int) []int { return []int{0, 0, turn, 0, 0, 0, 0, 0} }
	return map[string]wrong[[]int]{
		"no turns":            {nil, 0, api.ErrShape},
		"turns missing":       {make([]int, 7), 0, api.ErrShape},
		"turns more":          {make([]int, 9), 0, api.ErrShape},
		"101 turns":           {with(101), 0, api.ErrRange},
		"101 turns back":      {with(-101), 0, api.ErrRange},
		"the least turns":     {with(math.MinInt), 0, api.ErrRange},
		"the greatest turns":  {with(math.MaxInt), 0, api.ErrRange},
		"wrong, and one more": {append(with(101), 0), 0, api.ErrShape},
		"0 to 4 does not fit": {with(1), 0, api.ErrCycle},
		"0 to 3 does not fit": {[]int{0, -100, 0, 0, 0, 0, 0, 0}, 1, api.ErrCycle},
		"1 to 2 does not fit": {[]int{0, 0, 0, 100, 0, 0, 0, 0}, 2, api.ErrCycle},
		"2 to 3 does not fit": {[]int{0, 0, 0, 0, 0, -1, 0, 0}, 3, api.ErrCycle},
		"a cycle and a range": {[]int{1, 0, 0, 0, 0, 0, 0, 101}, 0, api.ErrRange},
	}
}

// wrongTasks are tasks with one error each.
func wrongTasks() map[string]wrong[api.MeshTask] {
	free := make([]int, 8)
	with := func(cost int) []int { return []int{0, 0, 0, 0, 0, 0, 0, cost} }
	tasks := map[string]wrong[api.MeshTask]{
		"no costs":         {api.MeshTask{Net: square(), Phases: make([]int, 5)}, 0, api.ErrShape},
		"a cost missing":   {api.MeshTask{Net: square(), Phases: make([]int, 5), Costs: free[:7]}, 0, api.ErrShape},
		"a cost more":      {api.MeshTask{Net: square(), Phases: make([]int, 5), Costs: make([]int, 9)}, 0, api.ErrShape},
		"a great cost":     {api.MeshTask{Net: square(), Phases: make([]int, 5), Costs: with(1001)}, 0, api.ErrRange},
		"a cost below 0":   {api.MeshTask{Net: square(), Phases: make([]int, 5), Costs: with(-1)}, 0, api.ErrRange},
		"the least cost":   {api.MeshTask{Net: square(), Phases: make([]int, 5), Costs: with(math.MinInt)}, 0, api.ErrRange},
		"great, and more":  {api.MeshTask{Net: square(), Phases: make([]int, 5), Costs: append(with(1001), 0)}, 0, api.ErrShape},
		"phases and costs": {api.MeshTask{Net: square(), Phases: []int{0, 0, 0, 0, 2048}}, 0, api.ErrRange},
	}
	for what, x := range wrongNets() {
		tasks[what] = wrong[api.MeshTask]{api.MeshTask{Net: x.x, Phases: make([]int, 7), Costs: []int{-1}}, 0, x.e}
	}
	for what, x := range wrongPhases() {
		tasks[what] = wrong[api.MeshTask]{api.MeshTask{Net: square(), Phases: x.x, Costs: free}, 0, x.e}
	}
	return tasks
}

// pointSets are sets of points of all kinds.
func pointSets() map[string][]api.MeshPoint {
	r := numbers{72}
	var grid, line, circle []api.MeshPoint
	for i := range 36 {
		grid = append(grid, api.MeshPoint{X: 7 * (i / 6), Y: 7 * (i % 6)})
		line = append(line, api.MeshPoint{X: i, Y: 2 * i})
	}
	for _, x := range [][2]int{{65, 0}, {63, 16}, {60, 25}, {56, 33}, {52, 39}} {
		circle = append(circle, places(x[0], x[1], -x[0], -x[1], -x[1], x[0], x[1], -x[0])...)
		if x[1] > 0 {
			circle = append(circle, places(x[1], x[0], -x[1], -x[0], -x[0], x[1], x[0], -x[1])...)
		}
	}
	sets := map[string][]api.MeshPoint{
		"the example":          square().Points,
		"three":                places(0, 0, 1, 0, 0, 1),
		"three, clockwise":     places(0, 0, 0, 1, 1, 0),
		"four on a circle":     places(0, 0, 4, 0, 4, 4, 0, 4),
		"the farthest":         places(10000, 10000, -10000, 10000, 10000, -10000, -10000, -10000, 0, 1),
		"nearly on a line":     places(-10000, -10000, 10000, 9999, 0, 0, 9999, 9998, -9999, -9999),
		"a grid":               grid,
		"a grid, mixed":        shuffled(&r, grid),
		"a grid, high":         append(slices.Clone(grid), places(7, 10000)...),
		"a line and a point":   append(slices.Clone(line), places(3, 0)...),
		"a point and a line":   append(places(-5, 0), shuffled(&r, line)...),
		"a line and two":       append(shuffled(&r, line), places(3, 0, 30, 70)...),
		"a line and on it":     places(0, 0, 2, 0, 4, 0, 2, 5, 6, 0, 1, 0, 8, 0),
		"upright":              append(places(0, 5, 0, 3, 0, 9, 0, -4, 0, 0), places(-7, 1)...),
		"a circle":             circle,
		"a circle, mixed":      append(shuffled(&r, circle), places(0, 0)...),
		"a circle, shifted":    shifted(circle, 9935, -9935),
		"border without inner": places(0, 0, 1, 0, 2, 0, 3, 0, 3, 1, 3, 2, 3, 3, 2, 3, 1, 3, 0, 3, 0, 2, 0, 1),
	}
	for i := range 60 {
		sets[fmt.Sprint("any ", i)] = r.points(3+i%38, []int{3, 4, 10, 100, 10000}[i%5])
	}
	return sets
}

func shifted(l []api.MeshPoint, x, y int) []api.MeshPoint {
	var out []api.MeshPoint
	for _, p := range l {
		out = append(out, api.MeshPoint{X: p.X + x, Y: p.Y + y})
	}
	return out
}

// anyNets are right nets, most of them not legal.
func anyNets() map[string]api.MeshNet {
	r := numbers{73}
	nets := map[string]api.MeshNet{"the example itself": square()}
	sets := pointSets()
	for _, what := range slices.Sorted(maps.Keys(sets)) {
		nets[what] = r.net(sets[what])
	}
	return nets
}
