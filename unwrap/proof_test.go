package unwrap_test

import (
	"fmt"
	"slices"
	"testing"

	"swath/api"
	"swath/unwrap"
)

func TestP5_9LeastCost(t *testing.T) {
	r := numbers{10}
	for range 150 {
		nodes := 2 + r.below(30)
		n := r.net(nodes, 1+r.below(3*nodes), 1+r.below(20), 1+r.below(1000))
		best, proof, cost := solved(t, fmt.Sprint(n), n)
		value, e := unwrap.CheckFlowOf(n, proof)
		want(t, "the value of the best flow", value, e, cost, api.OK)
		again, e := unwrap.CheckTurns(n, best)
		want(t, "the cost of the best turns", again, e, cost, api.OK)
		for range 5 {
			turns := r.turns(nodes, 20)
			costs, e := unwrap.CheckTurns(n, turns)
			value, f := unwrap.CheckFlowOf(n, r.flow(n, 10))
			if e != api.OK || f != api.OK || costs < cost || value > cost {
				t.Error("turns and a flow:", costs, value, "but the least cost is", cost, e, f)
			}
		}
		for node := range best {
			for _, more := range []int{-1, 1} {
				near := slices.Clone(best)
				near[node] += more
				if costs, e := unwrap.CheckTurns(n, near); e != api.OK || costs < cost {
					t.Error("near to the best turns:", costs, "but the least cost is", cost, e)
				}
			}
		}
	}
}

func TestP5_9ShiftedParts(t *testing.T) {
	r := numbers{11}
	for range 100 {
		nodes := 2 + r.below(30)
		n := r.net(nodes, r.below(nodes), 1000, 5)
		parts, e := unwrap.Parts(n)
		turns := r.turns(nodes, 500000)
		cost, f := unwrap.CheckTurns(n, turns)
		shifts := r.turns(nodes, 500000)
		for node := range turns {
			turns[node] += shifts[parts[node]]
		}
		shifted, g := unwrap.CheckTurns(n, turns)
		want(t, "shifted parts", shifted, g, cost, api.OK)
		if e != api.OK || f != api.OK {
			t.Error(n, e, f)
		}
	}
}

// All numbers from one end of NetBetween to the other are reached, and none beside: an edge of weight 1 that asks for a
// difference makes the cost greater only if no best turns have it.
func TestP5_10BothEndsReached(t *testing.T) {
	r := numbers{12}
	for range 60 {
		nodes := 2 + r.below(12)
		n := r.net(nodes, nodes+r.below(2*nodes), 1+r.below(9), 1+r.below(6))
		_, _, cost := solved(t, fmt.Sprint(n), n)
		from, to := r.below(nodes), r.below(nodes)
		between, e := unwrap.NetBetween(n, from, to)
		if e != api.OK || from == to {
			continue
		}
		for more, reached := range map[int]bool{between.Lo - 1: false, between.Lo: true, (between.Lo + between.Hi) / 2: true, between.Hi: true, between.Hi + 1: false} {
			asked := api.UnwrapNet{Nodes: nodes, Edges: append(slices.Clone(n.Edges), api.UnwrapEdge{From: from, To: to, Jump: -more, Weight: 1})}
			if _, _, with := solved(t, fmt.Sprint(asked), asked); (with == cost) != reached {
				t.Error(n, from, to, between, "a difference of", more, "costs", with, "instead of", cost)
			}
		}
	}
}

func TestP5_10TurnedOver(t *testing.T) {
	r := numbers{13}
	for range 40 {
		nodes := 2 + r.below(12)
		n := r.net(nodes, 2*nodes, 1+r.below(9), 1+r.below(3))
		turns, _, _ := solved(t, fmt.Sprint(n), n)
		classes, e := unwrap.NetClasses(n)
		if e != api.OK {
			t.Fatal(n, e)
		}
		for from := range nodes {
			for to := range nodes {
				there, e := unwrap.NetBetween(n, from, to)
				back, f := unwrap.NetBetween(n, to, from)
				want(t, fmt.Sprint(n, from, to), back, f, api.Range{Lo: -there.Hi, Hi: -there.Lo}, e)
				more := turns[to] - turns[from]
				if e == api.OK && (more < there.Lo || more > there.Hi || (there.Lo == there.Hi) != (classes[from] == classes[to])) {
					t.Error(n, from, to, there, "turns", turns, "classes", classes)
				}
				if e == api.ErrOpen && classes[from] == classes[to] {
					t.Error(n, from, to, "in one class")
				}
			}
		}
	}
}
