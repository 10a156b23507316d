package unwrap

import (
	"math"

	"swath/api"
)

// An arc is an edge as it is gone through: with the sign 1 from From to To, with -1 the other way round.
type arc struct{ edge, sign, to int }

// A solver has a flow over its net, which begins with 0 and becomes one of the greatest value by cost scaling: an edge
// with room for more flow may have an excess of up to a slack, and the slack is halved from round to round. Prices are
// turns times scale; as scale is greater than the number of nodes, and so than the length of any circle, no circle
// with room can add to the value once the slack is 1.
type solver struct {
	api.UnwrapNet
	scale   int
	arcs    [][]arc // those that leave each node, without those of weight 0
	flow    []int
	prices  []int
	surplus []int // what flows into each node, less what flows out
}

// solved returns a solver with a flow of the greatest value.
func solved(n api.UnwrapNet) *solver {
	s := &solver{UnwrapNet: n, scale: n.Nodes + 1, arcs: arcsOf(n)}
	s.flow = make([]int, len(s.Edges))
	s.prices = make([]int, s.Nodes)
	s.surplus = make([]int, s.Nodes)
	slack := s.scale * api.MaxNetJump // what any edge may have at first
	for slack > 1 {
		slack = (slack + 1) / 2
		s.refine(slack)
	}
	return s
}

func arcsOf(n api.UnwrapNet) [][]arc {
	arcs := make([][]arc, n.Nodes)
	for i, edge := range n.Edges {
		if edge.Weight > 0 {
			arcs[edge.From] = append(arcs[edge.From], arc{i, 1, edge.To})
			arcs[edge.To] = append(arcs[edge.To], arc{i, -1, edge.From})
		}
	}
	return arcs
}

// room is how much more flow may go through an arc.
func (s *solver) room(a arc) int {
	return s.Edges[a.edge].Weight - a.sign*s.flow[a.edge]
}

// gain is what a unit of flow through an arc that leaves a node adds to the value, as the prices have it.
func (s *solver) gain(node int, a arc) int {
	return s.prices[a.to] - s.prices[node] + a.sign*s.scale*s.Edges[a.edge].Jump
}

func (s *solver) push(node int, a arc, amount int) {
	s.flow[a.edge] += a.sign * amount
	s.surplus[node] -= amount
	s.surplus[a.to] += amount
}

// refine sends through all arcs that gain as much as they have room for, and then spreads what is too much at a node.
func (s *solver) refine(slack int) {
	for node, arcs := range s.arcs {
		for _, a := range arcs {
			if s.gain(node, a) > 0 {
				s.push(node, a, s.room(a))
			}
		}
	}
	for again := true; again; {
		again = false
		for node := range s.Nodes {
			if s.surplus[node] > 0 {
				s.spread(node, slack)
				again = true
			}
		}
	}
}

// spread sends the surplus of a node on. Where no arc gains, the price of the node is lowered until one does, by the
// slack. A surplus came through arcs that have room the other way round, so there is always one.
func (s *solver) spread(node, slack int) {
	for {
		best := math.MinInt
		for _, a := range s.arcs[node] {
			if s.gain(node, a) > 0 {
				s.push(node, a, min(s.surplus[node], s.room(a)))
			}
			if s.surplus[node] == 0 {
				return
			}
			if s.room(a) > 0 {
				best = max(best, s.gain(node, a))
			}
		}
		s.prices[node] -= slack - best
	}
}

// greatest returns the greatest turns of best ones that are 0 at some nodes, unknown ones for nodes in no part of
// these. For best turns, and a flow that proves it, no arc with room has an excess above 0; so turns are at most those
// that the arcs allow, which are the lengths of shortest ways.
func (s *solver) greatest(starts ...int) []int {
	turns := make([]int, s.Nodes)
	for node := range turns {
		turns[node] = unknown
	}
	for _, start := range starts {
		turns[start] = 0
	}
	for again := true; again; {
		again = s.shorten(turns)
	}
	return turns
}

const unknown = math.MaxInt

// shorten takes the turns of nodes that an arc allows fewer turns, and tells whether there were any.
func (s *solver) shorten(turns []int) bool {
	shortened := false
	for node, arcs := range s.arcs {
		for _, a := range arcs {
			if turns[node] == unknown || s.room(a) == 0 {
				continue
			}
			if most := turns[node] - a.sign*s.Edges[a.edge].Jump; most < turns[a.to] {
				turns[a.to] = most
				shortened = true
			}
		}
	}
	return shortened
}
