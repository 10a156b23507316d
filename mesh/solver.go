package mesh

import (
	"math"
	"slices"

	"swath/api"
)

// Unwrap returns right turns of least cost, potentials that prove it, and the cost.
func Unwrap(t api.MeshTask) ([]int, []int, int, api.Errno) {
	s, e := solved(t)
	if e != api.OK {
		return nil, nil, 0, e
	}
	ways, _ := s.ways(s.outer())
	potentials := make([]int, s.outer())
	for i := range potentials {
		potentials[i] = -ways[i]
	}
	return s.turns, potentials, costOf(s.costs, s.turns), api.OK
}

// Undecided returns the edges at which some right turns of least cost have another number than others.
func Undecided(t api.MeshTask) ([][2]int, api.Errno) {
	s, e := solved(t)
	if e != api.OK {
		return nil, e
	}
	var undecided [][2]int
	ways, _ := s.ways(s.outer())
	for i, edge := range s.edges() {
		if s.goesAround(arc{i, 1}, ways) || s.goesAround(arc{i, -1}, ways) {
			undecided = append(undecided, edge)
		}
	}
	return undecided, api.OK
}

// An arc is an edge that is crossed: with the sign 1 from its left to its right, with -1 the other way round.
type arc struct{ edge, sign int }

// A solver sends turns through its net, over the edges from triangle to triangle. A triangle with a closure of -1 has a
// turn too many, and one with a closure of 1 lacks one; the outside, which has the number behind those of the triangles,
// has what makes the sum 0.
type solver struct {
	net
	joined  [][2]int // the sides of each edge
	costs   []int
	turns   []int
	surplus []int
}

// solved returns a solver with right turns of least cost. Each turn is sent on the cheapest way, taking back others that
// have been sent where it pays, so that at no time what has been sent could have been sent cheaper.
func solved(t api.MeshTask) (*solver, api.Errno) {
	m, e := readTask(t)
	if e != api.OK {
		return nil, e
	}
	s := &solver{net: m, joined: m.sides(), costs: t.Costs, turns: make([]int, len(t.Costs))}
	s.surplus = make([]int, s.outer()+1)
	for i, closure := range m.closures(t.Phases) {
		s.surplus[i] -= closure
		s.surplus[s.outer()] += closure
	}
	for i, side := range s.joined {
		for j, triangle := range side {
			if triangle == outside {
				s.joined[i][j] = s.outer()
			}
		}
	}
	for s.send() {
	}
	return s, api.OK
}

// outer is the number that the outside has here.
func (s *solver) outer() int {
	return len(s.list)
}

// ends returns the triangle that an arc leaves and the one that it leads to.
func (s *solver) ends(a arc) (from, to int) {
	side := s.joined[a.edge]
	if a.sign < 0 {
		return side[1], side[0]
	}
	return side[0], side[1]
}

// price is what a turn more through an arc costs: less than 0 if it takes one back.
func (s *solver) price(a arc) int {
	if a.sign*s.turns[a.edge] < 0 {
		return -s.costs[a.edge]
	}
	return s.costs[a.edge]
}

// send sends a turn from where there is one too many to where one is lacking, and tells whether there was one to send.
func (s *solver) send() bool {
	first := slices.IndexFunc(s.surplus, func(surplus int) bool { return surplus > 0 })
	end := slices.IndexFunc(s.surplus, func(surplus int) bool { return surplus < 0 })
	if first < 0 || end < 0 {
		return false
	}
	s.surplus[first]--
	s.surplus[end]++
	_, last := s.ways(first)
	for at := end; at != first; at, _ = s.ends(last[at]) {
		s.turns[last[at].edge] += last[at].sign
	}
	return true
}

// ways returns the prices of the cheapest ways from a triangle to all, and the last arc of each way.
func (s *solver) ways(start int) ([]int, []arc) {
	prices := slices.Repeat([]int{math.MaxInt}, s.outer()+1)
	prices[start] = 0
	last := make([]arc, len(prices))
	for again := true; again; {
		again = false
		for _, a := range s.arcs() {
			from, to := s.ends(a)
			if prices[from] == math.MaxInt || prices[from]+s.price(a) >= prices[to] {
				continue
			}
			prices[to], last[to] = prices[from]+s.price(a), a
			again = true
		}
	}
	return prices, last
}

func (s *solver) arcs() []arc {
	var arcs []arc
	for edge := range s.joined {
		arcs = append(arcs, arc{edge, 1}, arc{edge, -1})
	}
	return arcs
}

// goesAround tells whether a turn can be sent around through an arc at no cost, and not back over the same edge. On such
// a way all arcs are last ones of cheapest ways.
func (s *solver) goesAround(a arc, ways []int) bool {
	begin, end := s.ends(a)
	if !s.isTight(a, ways) {
		return false
	}
	reached := make([]bool, len(ways))
	reached[end] = true
	for again := true; again; {
		again = false
		for _, b := range s.arcs() {
			from, to := s.ends(b)
			if b.edge != a.edge && reached[from] && !reached[to] && s.isTight(b, ways) {
				reached[to], again = true, true
			}
		}
	}
	return reached[begin]
}

// isTight tells whether an arc is the last one of a cheapest way.
func (s *solver) isTight(a arc, ways []int) bool {
	from, to := s.ends(a)
	return ways[from]+s.price(a) == ways[to]
}
