package stack

import "swath/api"

// A graph is a stack that knows the numbers of its pairs.
type graph struct {
	api.StackNet
	known map[api.StackPair]int
}

// parts are the least scene of the part of each scene.
type parts []int

// SmallPairs returns all pairs of scenes that are near each other.
func SmallPairs(l []api.StackScene, days, baseline int) ([]api.StackPair, api.Errno) {
	if _, e := scenesError(l); e != api.OK {
		return nil, e
	}
	if e := firstError(rangeError(days, 0, api.MaxDay), rangeError(baseline, 0, 2*api.MaxBaseline)); e != api.OK {
		return nil, e
	}
	var pairs []api.StackPair
	for first, a := range l {
		for second := first + 1; second < len(l); second++ {
			b := l[second]
			if sizeOf(a.Day-b.Day) <= days && sizeOf(a.Baseline-b.Baseline) <= baseline {
				pairs = append(pairs, api.StackPair{First: first, Second: second})
			}
		}
	}
	if e := largeError(len(pairs), api.MaxStackPairs); e != api.OK {
		return nil, e
	}
	return pairs, api.OK
}

// Parts returns the number of the part of each scene.
func Parts(s api.StackNet) ([]int, api.Errno) {
	g, e := right(s)
	if e != api.OK {
		return nil, e
	}
	return g.parts().numbered(), api.OK
}

// Bridges returns the numbers of the pairs that hold a part together: those in no cycle. Any cycle is made of those of a
// forest, so that these tell.
func Bridges(s api.StackNet) ([]int, api.Errno) {
	g, e := right(s)
	if e != api.OK {
		return nil, e
	}
	inCycle := make([]bool, len(g.Pairs))
	for cycle := range g.lightest().cycles() {
		for _, step := range cycle {
			inCycle[step.Pair] = true
		}
	}
	var bridges []int
	for number, is := range inCycle {
		if !is {
			bridges = append(bridges, number)
		}
	}
	return bridges, api.OK
}

// right returns a graph of a stack that has no error.
func right(s api.StackNet) (graph, api.Errno) {
	g, _, e := read(s)
	return g, e
}

// read returns a graph pair by pair, or what CheckNet returns.
func read(s api.StackNet) (graph, int, api.Errno) {
	if number, e := scenesError(s.Scenes); e != api.OK {
		return graph{}, number, e
	}
	if e := largeError(len(s.Pairs), api.MaxStackPairs); e != api.OK {
		return graph{}, 0, e
	}
	g := graph{s, map[api.StackPair]int{}}
	for number, pair := range g.Pairs {
		if e := g.pairError(pair); e != api.OK {
			return graph{}, number, e
		}
		g.known[pair] = number
	}
	return g, 0, api.OK
}

// pairError is the error of a pair behind those that are known.
func (g graph) pairError(pair api.StackPair) api.Errno {
	scenes := len(g.Scenes)
	if e := firstError(missingError(pair.First, scenes), missingError(pair.Second, scenes)); e != api.OK {
		return e
	}
	if pair.First >= pair.Second {
		return api.ErrOrder
	}
	if _, is := g.known[pair]; is {
		return api.ErrDouble
	}
	return api.OK
}

func (g graph) length(number int) int {
	a, b := g.Scenes[g.Pairs[number].First], g.Scenes[g.Pairs[number].Second]
	return sizeOf(a.Day-b.Day) + sizeOf(a.Baseline-b.Baseline)
}

func (g graph) parts() parts {
	p := alone(len(g.Scenes))
	for _, pair := range g.Pairs {
		p.join(pair)
	}
	return p
}

// alone returns parts of a scene each.
func alone(scenes int) parts {
	p := make(parts, scenes)
	for scene := range p {
		p[scene] = scene
	}
	return p
}

// join makes the parts of two scenes one, and tells whether they were two.
func (p parts) join(pair api.StackPair) bool {
	a, b := p[pair.First], p[pair.Second]
	for scene, least := range p {
		if least == max(a, b) {
			p[scene] = min(a, b)
		}
	}
	return a != b
}

// firsts returns the least scene of each part.
func (p parts) firsts() []int {
	var firsts []int
	for scene, least := range p {
		if scene == least {
			firsts = append(firsts, scene)
		}
	}
	return firsts
}

// numbered returns the number of the part of each scene, from 0 on, by their least scenes.
func (p parts) numbered() []int {
	numbers := make([]int, len(p))
	for part, first := range p.firsts() {
		for scene, least := range p {
			if least == first {
				numbers[scene] = part
			}
		}
	}
	return numbers
}
