package unwrap_test

import (
	"fmt"
	"math"
	"testing"

	"swath/api"
	"swath/unwrap"
)

// smallNets are nets whose best turns can all be tried, with how far from 0 they may be.
func smallNets(seed uint64) (nets []api.UnwrapNet, reach int) {
	r := numbers{seed}
	for range 60 {
		nodes := 2 + r.below(3)
		nets = append(nets, r.net(nodes, r.below(7), 2, 1+r.below(4)))
	}
	return nets, 6
}

// largeNets are nets of up to as many nodes, edges, jumps and weights as there may be.
func largeNets(seed uint64) map[string]api.UnwrapNet {
	r := numbers{seed}
	nets := map[string]api.UnwrapNet{
		"nothing":           net(0),
		"one node":          net(1),
		"no edges":          net(200),
		"all edges":         r.net(200, 600, 1000, 1000),
		"all edges, even":   r.net(200, 600, 1000, 1),
		"few turns":         r.net(200, 600, 1, 1000),
		"few turns, even":   r.net(200, 600, 1, 1),
		"jumps of 0":        r.net(200, 600, 0, 1000),
		"weights of 0":      r.net(200, 600, 1000, 0),
		"few edges":         r.net(200, 150, 1000, 1000),
		"a tree, and more":  r.net(200, 220, 1000, 1000),
		"few nodes":         r.net(20, 600, 1000, 1000),
		"two nodes":         r.net(2, 600, 1000, 1000),
		"a chain":           chain(1000, 1000),
		"a chain down":      chain(-1000, 1),
		"a closed chain":    chain(1000, 7),
		"a ladder":          ladder(1000),
		"an uneven ladder":  ladder(0),
		"a crowd of jumps":  r.net(50, 600, 1000, 2),
		"a middle-size net": r.net(100, 300, 30, 50),
	}
	closed := nets["a closed chain"]
	closed.Edges = append(closed.Edges, api.UnwrapEdge{From: closed.Edges[198].To, To: 0, Jump: 1000, Weight: 3})
	nets["a closed chain"] = closed
	return nets
}

// ladder has two rows of 100 nodes, with jumps that the one row does not agree with the other on.
func ladder(weight int) api.UnwrapNet {
	n := api.UnwrapNet{Nodes: 200}
	for i := range 99 {
		n.Edges = append(n.Edges,
			api.UnwrapEdge{From: i, To: i + 1, Jump: 1000, Weight: max(weight, 1000-i)},
			api.UnwrapEdge{From: 101 + i, To: 100 + i, Jump: 1000, Weight: max(weight, 1+i*9)},
			api.UnwrapEdge{From: 100 + i, To: i, Jump: i, Weight: 1000})
	}
	return n
}

func TestP5_3Examples(t *testing.T) {
	first := net(3, 0, 1, 1, 5, 1, 2, 0, 3, 2, 0, 0, 2)
	turns, flow, cost := solved(t, "the first example", first)
	want(t, "the first example", turns, api.OK, []int{0, -1, -1}, api.OK)
	want(t, "the first example", flow, api.OK, []int{2, 2, 2}, api.OK)
	want(t, "the first example", cost, api.OK, 2, api.OK)
	between, e := unwrap.NetBetween(first, 0, 1)
	want(t, "the first example", between, e, api.Range{Lo: -1, Hi: -1}, api.OK)
	classes, e := unwrap.NetClasses(first)
	want(t, "the first example", classes, e, []int{0, 0, 0}, api.OK)
	second := net(3, 0, 1, 1, 5, 1, 2, 0, 2, 2, 0, 0, 2)
	_, _, cost = solved(t, "the second example", second)
	want(t, "the second example", cost, api.OK, 2, api.OK)
	between, e = unwrap.NetBetween(second, 0, 2)
	want(t, "the second example", between, e, api.Range{Lo: -1, Hi: 0}, api.OK)
	between, e = unwrap.NetBetween(second, 2, 0)
	want(t, "the second example", between, e, api.Range{Lo: 0, Hi: 1}, api.OK)
	classes, e = unwrap.NetClasses(second)
	want(t, "the second example", classes, e, []int{0, 0, 1}, api.OK)
	_, flow, cost = solved(t, "a jump at each edge", net(3, 0, 1, 1, 5, 1, 2, 1, 3, 2, 0, 1, 2))
	want(t, "a jump at each edge", cost, api.OK, 6, api.OK)
	want(t, "a jump at each edge", flow, api.OK, []int{2, 2, 2}, api.OK)
}

func TestP5_3SolveNetOfSmallNets(t *testing.T) {
	nets, reach := smallNets(4)
	for _, n := range nets {
		_, least := bestTurns(n, reach)
		_, _, cost := solved(t, fmt.Sprint(n), n)
		want(t, fmt.Sprint(n), cost, api.OK, least, api.OK)
	}
}

func TestP5_3SolveNetOfLargeNets(t *testing.T) {
	for what, n := range largeNets(5) {
		solved(t, what, n)
	}
	r := numbers{6}
	for range 150 {
		nodes := 2 + r.below(60)
		n := r.net(nodes, r.below(4*nodes), 1+r.below(1000), 1+r.below(1000))
		solved(t, fmt.Sprint(n), n)
	}
}

// Turns of a tree have no excess, whatever its jumps are, and are the only best ones.
func TestP5_3SolveNetOfTrees(t *testing.T) {
	n := chain(1000, 1)
	turns, flow, cost := solved(t, "a chain", n)
	for i := range 200 {
		if turns[i*77%200] != -1000*i {
			t.Error("a chain: turns of the node", i*77%200, turns[i*77%200])
		}
	}
	want(t, "a chain", flow, api.OK, make([]int, 199), api.OK)
	want(t, "a chain", cost, api.OK, 0, api.OK)
	classes, e := unwrap.NetClasses(n)
	want(t, "a chain", classes, e, make([]int, 200), api.OK)
	between, e := unwrap.NetBetween(n, 0, 199*77%200)
	want(t, "a chain", between, e, api.Range{Lo: -199000, Hi: -199000}, api.OK)
	between, e = unwrap.NetBetween(n, 199*77%200, 77)
	want(t, "a chain", between, e, api.Range{Lo: 198000, Hi: 198000}, api.OK)
}

func TestP5_3SeveralEdges(t *testing.T) {
	for what, x := range map[string]struct {
		n       api.UnwrapNet
		cost    int
		between api.Range
	}{
		"the heavier one counts":   {net(2, 0, 1, 0, 2, 0, 1, 5, 3), 10, api.Range{Lo: -5, Hi: -5}},
		"two even ones":            {net(2, 0, 1, 0, 2, 0, 1, 5, 2), 10, api.Range{Lo: -5, Hi: 0}},
		"in either direction":      {net(2, 0, 1, 0, 2, 1, 0, 5, 2), 10, api.Range{Lo: 0, Hi: 5}},
		"two against one":          {net(2, 0, 1, 4, 2, 0, 1, 4, 2, 1, 0, 4, 3), 24, api.Range{Lo: -4, Hi: -4}},
		"the middle of three":      {net(2, 0, 1, 0, 1, 0, 1, 10, 1, 0, 1, 3, 1), 10, api.Range{Lo: -3, Hi: -3}},
		"the middle of four":       {net(2, 0, 1, 0, 1, 1, 0, -10, 1, 0, 1, 3, 1, 0, 1, 4, 1), 11, api.Range{Lo: -4, Hi: -3}},
		"of weight 0 beside":       {net(2, 0, 1, 900, 0, 0, 1, 3, 1), 0, api.Range{Lo: -3, Hi: -3}},
		"the greatest of all":      {net(2, 0, 1, 1000, 1000, 0, 1, -1000, 1000), 2000000, api.Range{Lo: -1000, Hi: 1000}},
		"beside a part of its own": {net(4, 2, 3, 5, 1, 2, 3, 6, 2, 0, 1, 7, 1), 1, api.Range{Lo: -7, Hi: -7}},
	} {
		_, _, cost := solved(t, what, x.n)
		want(t, what, cost, api.OK, x.cost, api.OK)
		between, e := unwrap.NetBetween(x.n, 0, 1)
		want(t, what, between, e, x.between, api.OK)
	}
}

func TestP5_3NetBetweenErrors(t *testing.T) {
	parts := net(5, 0, 1, 0, 1, 2, 3, 0, 1, 1, 2, 0, 0)
	for what, x := range map[string]struct {
		n        api.UnwrapNet
		from, to int
		e        api.Errno
	}{
		"in one part":        {parts, 0, 1, api.OK},
		"in the other one":   {parts, 3, 2, api.OK},
		"itself":             {parts, 4, 4, api.OK},
		"in two parts":       {parts, 0, 2, api.ErrOpen},
		"by an edge of 0":    {parts, 1, 2, api.ErrOpen},
		"the other way":      {parts, 3, 1, api.ErrOpen},
		"alone":              {parts, 3, 4, api.ErrOpen},
		"no node from":       {parts, 5, 0, api.ErrMissing},
		"from below 0":       {parts, -1, 0, api.ErrMissing},
		"no node to":         {parts, 0, 5, api.ErrMissing},
		"to below 0":         {parts, 0, -1, api.ErrMissing},
		"neither":            {parts, math.MinInt, math.MaxInt, api.ErrMissing},
		"the same, missing":  {parts, 5, 5, api.ErrMissing},
		"of nothing":         {net(0), 0, 0, api.ErrMissing},
		"a wrong net first":  {net(2, 0, 0, 0, 1), 7, 7, api.ErrForm},
		"a wrong net, parts": {net(2, 0, 1, 0, -1), 0, 1, api.ErrRange},
	} {
		between, e := unwrap.NetBetween(x.n, x.from, x.to)
		want(t, what, between, e, api.Range{}, x.e)
	}
}

func TestP5_3BetweenOfSmallNets(t *testing.T) {
	nets, reach := smallNets(7)
	for _, n := range nets {
		best, _ := bestTurns(n, reach)
		parts := partsOf(n)
		most := make([][]int, n.Nodes)
		for from := range n.Nodes {
			most[from] = make([]int, n.Nodes)
			for to := range n.Nodes {
				right, rightError := api.Range{}, api.ErrOpen
				most[from][to] = far
				if parts[from] == parts[to] {
					right, rightError = api.Range{Lo: far, Hi: -far}, api.OK
					for _, turns := range best {
						more := turns[to] - turns[from]
						right = api.Range{Lo: min(right.Lo, more), Hi: max(right.Hi, more)}
					}
					most[from][to] = right.Hi
				}
				between, e := unwrap.NetBetween(n, from, to)
				want(t, fmt.Sprint(n, from, to), between, e, right, rightError)
			}
		}
		classes, e := unwrap.NetClasses(n)
		want(t, fmt.Sprint(n), classes, e, classesOf(most), api.OK)
	}
}

// between checks NetBetween and NetClasses against what a flow that proves best turns tells.
func betweenAsProved(t *testing.T, what string, n api.UnwrapNet, r *numbers, times int) {
	t.Helper()
	_, flow, _ := solved(t, what, n)
	most := mostBetween(n, flow)
	classes, e := unwrap.NetClasses(n)
	want(t, what, classes, e, classesOf(most), api.OK)
	for range times {
		from, to := r.below(n.Nodes), r.below(n.Nodes)
		right, rightError := api.Range{}, api.ErrOpen
		if most[from][to] < far {
			right, rightError = api.Range{Lo: -most[to][from], Hi: most[from][to]}, api.OK
		}
		between, e := unwrap.NetBetween(n, from, to)
		want(t, fmt.Sprint(what, from, to), between, e, right, rightError)
	}
}

func TestP5_3BetweenOfLargeNets(t *testing.T) {
	r := numbers{8}
	for what, n := range largeNets(9) {
		if n.Nodes > 0 {
			betweenAsProved(t, what, n, &r, 8)
		}
	}
	for range 60 {
		nodes := 2 + r.below(40)
		n := r.net(nodes, r.below(4*nodes), 1+r.below(6), 1+r.below(5))
		betweenAsProved(t, fmt.Sprint(n), n, &r, 20)
	}
}

func TestP5_3ClassesEdgeCases(t *testing.T) {
	for what, x := range map[string]struct {
		n       api.UnwrapNet
		classes []int
	}{
		"nothing":               {net(0), nil},
		"one node":              {net(1), []int{0}},
		"no edges":              {net(3), []int{0, 1, 2}},
		"edges of weight 0":     {net(3, 0, 1, 0, 0, 1, 2, 0, 0), []int{0, 1, 2}},
		"a tree":                {net(4, 3, 1, 5, 1, 1, 0, -5, 2, 2, 3, 1000, 1), []int{0, 0, 0, 0}},
		"two trees":             {net(4, 3, 1, 5, 1, 0, 2, -5, 2), []int{0, 1, 0, 1}},
		"an even circle":        {net(3, 0, 1, 1, 2, 1, 2, 0, 2, 2, 0, 0, 2), []int{0, 1, 2}},
		"an even circle of 0":   {net(3, 0, 1, 1, 2, 1, 2, 0, 2, 2, 0, -1, 2), []int{0, 0, 0}},
		"one of two":            {net(3, 0, 1, 1, 1, 1, 2, 0, 1, 2, 0, 0, 9), []int{0, 1, 0}},
		"two beside":            {net(2, 0, 1, 1, 2, 0, 1, 0, 2), []int{0, 1}},
		"uneven beside":         {net(2, 0, 1, 1, 2, 0, 1, 0, 3), []int{0, 0}},
		"a class apart":         {net(4, 0, 3, 1, 2, 0, 3, 0, 2, 1, 3, 7, 1, 2, 0, 7, 1), []int{0, 1, 0, 1}},
		"a circle and a tail":   {net(4, 1, 2, 1, 2, 2, 3, 0, 2, 3, 1, 0, 5, 3, 0, 4, 1), []int{0, 0, 1, 0}},
		"with a weight-0 chord": {net(3, 0, 1, 1, 1, 1, 2, 0, 1, 2, 0, 5, 0), []int{0, 0, 0}},
	} {
		classes, e := unwrap.NetClasses(x.n)
		want(t, what, classes, e, x.classes, api.OK)
	}
}
