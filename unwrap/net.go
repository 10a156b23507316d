package unwrap

import "swath/api"

// Parts returns the number of the part of each node.
func Parts(n api.UnwrapNet) ([]int, api.Errno) {
	if e := netError(n); e != api.OK {
		return nil, e
	}
	return numbered(leastsOfParts(n)), api.OK
}

// SolveNet returns best turns, a flow that proves it, and their cost.
func SolveNet(n api.UnwrapNet) ([]int, []int, int, api.Errno) {
	if e := netError(n); e != api.OK {
		return nil, nil, 0, e
	}
	turns, flow := solution(n)
	return turns, flow, costOf(n, turns), api.OK
}

// NetBetween returns by how many turns a node may have more than another one, among all best turns.
func NetBetween(n api.UnwrapNet, from, to int) (api.Range, api.Errno) {
	if e := netError(n); e != api.OK {
		return api.Range{}, e
	}
	if from < 0 || from >= n.Nodes || to < 0 || to >= n.Nodes {
		return api.Range{}, api.ErrMissing
	}
	if leasts := leastsOfParts(n); leasts[from] != leasts[to] {
		return api.Range{}, api.ErrOpen
	}
	s := solved(n)
	return api.Range{Lo: -s.greatest(to)[from], Hi: s.greatest(from)[to]}, api.OK
}

// NetClasses returns the number of the class of each node.
func NetClasses(n api.UnwrapNet) ([]int, api.Errno) {
	if e := netError(n); e != api.OK {
		return nil, e
	}
	return classesOf(n), api.OK
}

// solution returns best turns, which are 0 at the least node of each part, and a flow that proves it.
func solution(n api.UnwrapNet) ([]int, []int) {
	s := solved(n)
	return s.greatest(firstsOfParts(n)...), s.flow
}

// classesOf puts two nodes into one class if the turns of the one, less those of the other, are at most, and so at
// least, one number.
func classesOf(n api.UnwrapNet) []int {
	s := solved(n)
	greatest := make([][]int, n.Nodes)
	for node := range greatest {
		greatest[node] = s.greatest(node)
	}
	leasts := make([]int, n.Nodes)
	for node := range leasts {
		for greatest[leasts[node]][node] != -greatest[node][leasts[node]] {
			leasts[node]++
		}
	}
	return numbered(leasts)
}

// leastsOfParts returns the least node of the part of each node.
func leastsOfParts(n api.UnwrapNet) []int {
	leasts := make([]int, n.Nodes)
	for node := range leasts {
		leasts[node] = node
	}
	for again := true; again; {
		again = false
		for _, edge := range n.Edges {
			if edge.Weight == 0 || leasts[edge.From] == leasts[edge.To] {
				continue
			}
			least := min(leasts[edge.From], leasts[edge.To])
			leasts[edge.From], leasts[edge.To] = least, least
			again = true
		}
	}
	return leasts
}

// firstsOfParts returns the nodes that are the least ones of their parts.
func firstsOfParts(n api.UnwrapNet) []int {
	var firsts []int
	for node, least := range leastsOfParts(n) {
		if node == least {
			firsts = append(firsts, node)
		}
	}
	return firsts
}

// numbered returns the number of the group of each node, from 0 on, by their least nodes.
func numbered(leasts []int) []int {
	numbers := make([]int, len(leasts))
	next := 0
	for node, least := range leasts {
		if node == least {
			numbers[node] = next
			next++
			continue
		}
		numbers[node] = numbers[least]
	}
	return numbers
}
