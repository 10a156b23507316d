package unwrap_test

import (
	"fmt"
	"math"
	"slices"
	"testing"

	"swath/api"
	"swath/unwrap"
)

const void = api.PhaseVoid

var (
	notANumber = float32(math.NaN())
	inf        = float32(math.Inf(1))
	minus      = float32(math.Copysign(0, -1))
)

// want compares a result and an error with those that are right. A nil slice and an empty one are the same, as they
// are written alike.
func want[T any](t *testing.T, what string, got T, e api.Errno, right T, rightError api.Errno) {
	t.Helper()
	if e != rightError {
		t.Errorf("%s: error %d, want %d", what, e, rightError)
	}
	if fmt.Sprint(got) != fmt.Sprint(right) {
		t.Errorf("%s: %v, want %v", what, got, right)
	}
}

// wantError checks an error, and that a result beside one is zero.
func wantError[T any](t *testing.T, what string, got T, e api.Errno, right api.Errno) {
	t.Helper()
	if e != right {
		t.Errorf("%s: error %d, want %d", what, e, right)
	}
	zeroBeside(t, what, got, e)
}

func zeroBeside[T any](t *testing.T, what string, got T, e api.Errno) {
	t.Helper()
	var zero T
	if e != api.OK && fmt.Sprint(got) != fmt.Sprint(zero) {
		t.Errorf("%s: %v beside the error %d", what, got, e)
	}
}

// net returns a net with edges of four numbers each: from, to, jump and weight.
func net(nodes int, numbers ...int) api.UnwrapNet {
	n := api.UnwrapNet{Nodes: nodes}
	for of := range slices.Chunk(numbers, 4) {
		n.Edges = append(n.Edges, api.UnwrapEdge{From: of[0], To: of[1], Jump: of[2], Weight: of[3]})
	}
	return n
}

// phases returns a map of so many rows.
func phases(rows int, of ...int) api.PhaseMap {
	return api.PhaseMap{Rows: rows, Columns: len(of) / rows, Phases: of}
}

// floats returns a float map of so many rows.
func floats(rows int, of ...float32) api.FloatMap {
	return api.FloatMap{Rows: rows, Columns: len(of) / rows, Data: of}
}

// even returns a task with the same weight for all pairs.
func even(m api.PhaseMap, weight int) api.UnwrapTask {
	t := api.UnwrapTask{Map: m}
	for range m.Rows * (m.Columns - 1) {
		t.Across = append(t.Across, weight)
	}
	for range (m.Rows - 1) * m.Columns {
		t.Down = append(t.Down, weight)
	}
	return t
}

// example is the task of the chapter's third example.
func example() api.UnwrapTask {
	return api.UnwrapTask{Map: phases(2, 0, 1500, -1500, -1096), Across: []int{5, 4}, Down: []int{3, 2}}
}

// numbers yields the same numbers in each run, below a bound.
type numbers struct{ state uint64 }

func (r *numbers) below(n int) int {
	r.state = r.state*6364136223846793005 + 1442695040888963407
	return int(r.state>>33) % n
}

// within returns a number from -most to most.
func (r *numbers) within(most int) int { return r.below(2*most+1) - most }

// net returns a net with edges anywhere, several ones between the same nodes among them.
func (r *numbers) net(nodes, edges, jump, weight int) api.UnwrapNet {
	n := api.UnwrapNet{Nodes: nodes}
	for range edges {
		from := r.below(nodes)
		to := (from + 1 + r.below(nodes-1)) % nodes
		n.Edges = append(n.Edges, api.UnwrapEdge{From: from, To: to, Jump: r.within(jump), Weight: r.below(weight + 1)})
	}
	return n
}

func (r *numbers) turns(nodes, most int) []int {
	var turns []int
	for range nodes {
		turns = append(turns, r.within(most))
	}
	return turns
}

// flow returns a right flow of a net: amounts that go around circles, as often as there is room. The circles go along
// edges until they come to a node again.
func (r *numbers) flow(n api.UnwrapNet, circles int) []int {
	flow := make([]int, len(n.Edges))
	for range circles {
		way, signs := r.circle(n)
		room := api.MaxNetWeight
		for i, edge := range way {
			room = min(room, n.Edges[edge].Weight-signs[i]*flow[edge])
		}
		amount := r.below(room + 1)
		for i, edge := range way {
			flow[edge] += signs[i] * amount
		}
	}
	return flow
}

// circle returns the edges of a way that ends where it begins, with 1 for those that it goes along, and -1 for others;
// none if the way comes to a node without a further edge.
func (r *numbers) circle(n api.UnwrapNet) (way, signs []int) {
	node := r.below(n.Nodes)
	seen := []int{node}
	for {
		var edges []int
		for i, edge := range n.Edges {
			if (edge.From == node || edge.To == node) && edge.Weight > 0 && !slices.Contains(way, i) {
				edges = append(edges, i)
			}
		}
		if len(edges) == 0 {
			return nil, nil
		}
		i := edges[r.below(len(edges))]
		sign := 1
		if n.Edges[i].To == node {
			sign = -1
		}
		node = n.Edges[i].From + n.Edges[i].To - node
		way, signs = append(way, i), append(signs, sign)
		if first := slices.Index(seen, node); first >= 0 {
			return way[first:], signs[first:]
		}
		seen = append(seen, node)
	}
}

// wrappedMap returns a wrapped map in which one pixel of so many is void, none if holes is 0.
func (r *numbers) wrappedMap(rows, columns, holes int) api.PhaseMap {
	m := api.PhaseMap{Rows: rows, Columns: columns}
	for range rows * columns {
		phase := r.below(4096) - 2048
		if holes > 0 && r.below(holes) == 0 {
			phase = void
		}
		m.Phases = append(m.Phases, phase)
	}
	return m
}

func (r *numbers) task(rows, columns, holes, weight int) api.UnwrapTask {
	t := even(r.wrappedMap(rows, columns, holes), 0)
	for i := range t.Across {
		t.Across[i] = r.below(weight + 1)
	}
	for i := range t.Down {
		t.Down[i] = r.below(weight + 1)
	}
	return t
}

// wrapped takes whole turns away, or adds them.
func wrapped(phase int) int {
	for phase > 2047 {
		phase -= (phase + 2048) / 4096 * 4096
	}
	for phase < -2048 {
		phase += (2047 - phase) / 4096 * 4096
	}
	return phase
}

// costOf is the cost of turns by its definition.
func costOf(n api.UnwrapNet, turns []int) int {
	cost := 0
	for _, edge := range n.Edges {
		if x := turns[edge.To] - turns[edge.From] + edge.Jump; x < 0 {
			cost -= edge.Weight * x
		} else {
			cost += edge.Weight * x
		}
	}
	return cost
}

// valueOf is the value of a flow, and whether it is right.
func valueOf(n api.UnwrapNet, flow []int) (value int, right bool) {
	if len(flow) != len(n.Edges) {
		return 0, false
	}
	balance := map[int]int{}
	for i, edge := range n.Edges {
		if flow[i] > edge.Weight || -flow[i] > edge.Weight {
			return 0, false
		}
		balance[edge.From] -= flow[i]
		balance[edge.To] += flow[i]
		value += flow[i] * edge.Jump
	}
	for _, sum := range balance {
		if sum != 0 {
			return 0, false
		}
	}
	return value, true
}

// partsOf finds the parts of a net by going on from the least node of each one.
func partsOf(n api.UnwrapNet) []int {
	parts := slices.Repeat([]int{-1}, n.Nodes)
	next := 0
	for first := range parts {
		if parts[first] >= 0 {
			continue
		}
		parts[first] = next
		todo := []int{first}
		for len(todo) > 0 {
			node := todo[0]
			todo = todo[1:]
			for _, edge := range n.Edges {
				if edge.Weight == 0 || edge.From != node && edge.To != node {
					continue
				}
				if other := edge.From + edge.To - node; parts[other] < 0 {
					parts[other] = next
					todo = append(todo, other)
				}
			}
		}
		next++
	}
	return parts
}

// solved calls SolveNet and checks what it returns: the flow and the turns prove each other.
func solved(t *testing.T, what string, n api.UnwrapNet) (turns, flow []int, cost int) {
	t.Helper()
	turns, flow, cost, e := unwrap.SolveNet(n)
	if e != api.OK || len(turns) != n.Nodes {
		t.Fatalf("%s: error %d, turns %v", what, e, turns)
	}
	value, right := valueOf(n, flow)
	if !right || value != cost || costOf(n, turns) != cost {
		t.Fatalf("%s: cost %d, turns cost %d, flow %v is worth %d", what, cost, costOf(n, turns), right, value)
	}
	parts := partsOf(n)
	for node, part := range parts {
		if slices.Index(parts, part) == node && turns[node] != 0 {
			t.Fatalf("%s: turns %d at the least node %d of a part", what, turns[node], node)
		}
	}
	return turns, flow, cost
}

const far = math.MaxInt / 4

// mostBetween finds, for each two nodes of a net, the greatest difference of best turns, as a flow that proves them
// bounds it; far if nothing does. An edge whose flow is not Weight has no excess above 0 in any best turns, an edge
// whose flow is not -Weight none below 0.
func mostBetween(n api.UnwrapNet, flow []int) [][]int {
	most := make([][]int, n.Nodes)
	for a := range most {
		most[a] = slices.Repeat([]int{far}, n.Nodes)
		most[a][a] = 0
	}
	for i, edge := range n.Edges {
		if flow[i] < edge.Weight {
			most[edge.From][edge.To] = min(most[edge.From][edge.To], -edge.Jump)
		}
		if flow[i] > -edge.Weight {
			most[edge.To][edge.From] = min(most[edge.To][edge.From], edge.Jump)
		}
	}
	for b := range most {
		for a := range most {
			for c := range most {
				if most[a][b] < far && most[b][c] < far {
					most[a][c] = min(most[a][c], most[a][b]+most[b][c])
				}
			}
		}
	}
	return most
}

// classesOf numbers the classes of nodes whose differences are bounded to one number.
func classesOf(most [][]int) []int {
	classes := make([]int, len(most))
	next := 0
	for a := range most {
		classes[a] = next
		for b := range a {
			if most[a][b] < far && most[a][b] == -most[b][a] {
				classes[a] = classes[b]
				break
			}
		}
		if classes[a] == next {
			next++
		}
	}
	return classes
}

// bestTurns returns all best turns of a small net that are 0 at the least node of each part, and their cost. It tries
// all that may be: those of a node differ from those of a neighbour that decides on them by its jump.
func bestTurns(n api.UnwrapNet, reach int) (best [][]int, cost int) {
	parts := partsOf(n)
	turns := make([]int, n.Nodes)
	cost = far
	var try func(node int)
	try = func(node int) {
		if node == n.Nodes {
			if c := costOf(n, turns); c < cost {
				best, cost = nil, c
			}
			if costOf(n, turns) == cost {
				best = append(best, slices.Clone(turns))
			}
			return
		}
		most := reach
		if slices.Index(parts, parts[node]) == node {
			most = 0
		}
		for turn := -most; turn <= most; turn++ {
			turns[node] = turn
			try(node + 1)
		}
	}
	try(0)
	return best, cost
}

// neighbours returns the pairs of neighbours of a map, those across first.
func neighbours(rows, columns int) [][2]int {
	var across, down [][2]int
	for row := range rows {
		for column := range columns {
			at := row*columns + column
			if column+1 < columns {
				across = append(across, [2]int{at, at + 1})
			}
			if row+1 < rows {
				down = append(down, [2]int{at, at + columns})
			}
		}
	}
	return append(across, down...)
}

// netOf is the net of a task by its definition.
func netOf(t api.UnwrapTask) api.UnwrapNet {
	n := api.UnwrapNet{Nodes: len(t.Map.Phases)}
	weights := append(slices.Clone(t.Across), t.Down...)
	for i, pair := range neighbours(t.Map.Rows, t.Map.Columns) {
		from, to := t.Map.Phases[pair[0]], t.Map.Phases[pair[1]]
		if from == void || to == void {
			continue
		}
		jump := (to - from - wrapped(to-from)) / 4096
		n.Edges = append(n.Edges, api.UnwrapEdge{From: pair[0], To: pair[1], Jump: jump, Weight: weights[i]})
	}
	return n
}

// fieldWith returns the field with such turns.
func fieldWith(t api.UnwrapTask, turns []int) api.PhaseMap {
	u := api.PhaseMap{Rows: t.Map.Rows, Columns: t.Map.Columns}
	for i, phase := range t.Map.Phases {
		if phase != void {
			phase += 4096 * turns[i]
		}
		u.Phases = append(u.Phases, phase)
	}
	return u
}

// wrong is an argument with its error.
type wrong[T any] struct {
	x T
	e api.Errno
}

func wrongNets() map[string]wrong[api.UnwrapNet] {
	return map[string]wrong[api.UnwrapNet]{
		"nodes below 0":     {net(-1), api.ErrRange},
		"201 nodes":         {net(201), api.ErrRange},
		"the least int":     {net(math.MinInt), api.ErrRange},
		"the greatest int":  {net(math.MaxInt), api.ErrRange},
		"601 edges":         {api.UnwrapNet{Nodes: 2, Edges: slices.Repeat(net(2, 0, 1, 0, 1).Edges, 601)}, api.ErrLarge},
		"no node From":      {net(2, 2, 1, 0, 1), api.ErrMissing},
		"From below 0":      {net(2, -1, 1, 0, 1), api.ErrMissing},
		"no node To":        {net(2, 0, 1, 0, 1, 0, 2, 0, 1), api.ErrMissing},
		"To below 0":        {net(2, 0, -1, 0, 1), api.ErrMissing},
		"no nodes":          {net(0, 0, 1, 0, 1), api.ErrMissing},
		"an edge to itself": {net(2, 0, 1, 0, 1, 1, 1, 0, 1), api.ErrForm},
		"a great jump":      {net(2, 0, 1, 1001, 1), api.ErrRange},
		"a jump below 0":    {net(2, 0, 1, -1001, 1), api.ErrRange},
		"the least jump":    {net(2, 0, 1, math.MinInt, 1), api.ErrRange},
		"a great weight":    {net(2, 0, 1, 0, 1001), api.ErrRange},
		"a weight below 0":  {net(2, 0, 1, 0, -1), api.ErrRange},
		"the least weight":  {net(2, 0, 1, 0, math.MinInt), api.ErrRange},
	}
}

// wrongSizes are sizes of maps, with how many numbers there are.
func wrongSizes() map[string]wrong[[3]int] {
	return map[string]wrong[[3]int]{
		"no map":           {[3]int{0, 0, 0}, api.ErrRange},
		"no rows":          {[3]int{0, 3, 0}, api.ErrRange},
		"no columns":       {[3]int{3, 0, 0}, api.ErrRange},
		"65 rows":          {[3]int{65, 1, 65}, api.ErrRange},
		"65 columns":       {[3]int{1, 65, 65}, api.ErrRange},
		"both below 0":     {[3]int{-2, -2, 4}, api.ErrRange},
		"65 rows, no data": {[3]int{65, 1, 0}, api.ErrRange},
		"a product of 0":   {[3]int{1 << 32, 1 << 32, 0}, api.ErrRange},
		"the least ints":   {[3]int{math.MinInt, math.MinInt, 0}, api.ErrRange},
		"a number missing": {[3]int{2, 3, 5}, api.ErrShape},
		"a number more":    {[3]int{2, 3, 7}, api.ErrShape},
		"no data":          {[3]int{1, 1, 0}, api.ErrShape},
		"large, and wrong": {[3]int{64, 64, 4095}, api.ErrShape},
	}
}

// wrongMaps are those that are wrong as wrapped maps and as maps of phases.
func wrongMaps() map[string]wrong[api.PhaseMap] {
	maps := map[string]wrong[api.PhaseMap]{
		"a great phase":         {phases(1, 0, 100000001), api.ErrRange},
		"a great one below 0":   {phases(1, -100000001, 0), api.ErrRange},
		"nearly a void one":     {phases(1, void-1, 0), api.ErrRange},
		"more than a void one":  {phases(1, 0, void+1), api.ErrRange},
		"the opposite of void":  {phases(1, -void, 0), api.ErrRange},
		"the least of all":      {phases(1, void, math.MinInt), api.ErrRange},
		"the greatest of all":   {phases(1, math.MaxInt, 0), api.ErrRange},
		"more wrong than right": {phases(2, math.MaxInt, 0, math.MinInt, math.MaxInt), api.ErrRange},
	}
	for what, x := range wrongSizes() {
		maps[what] = wrong[api.PhaseMap]{api.PhaseMap{Rows: x.x[0], Columns: x.x[1], Phases: make([]int, x.x[2])}, x.e}
	}
	return maps
}

// wrongTasks are tasks with one error each.
func wrongTasks() map[string]wrong[api.UnwrapTask] {
	tasks := map[string]wrong[api.UnwrapTask]{
		"145 pixels":           {even(api.PhaseMap{Rows: 5, Columns: 29, Phases: make([]int, 145)}, 1), api.ErrLarge},
		"the largest map":      {even(api.PhaseMap{Rows: 64, Columns: 64, Phases: make([]int, 4096)}, 1), api.ErrLarge},
		"half a turn":          {even(phases(1, 0, 2048), 1), api.ErrRange},
		"more than minus half": {even(phases(1, -2049, 0), 1), api.ErrRange},
		"a weight missing":     {api.UnwrapTask{Map: phases(1, 0, 0, 0), Across: []int{1}}, api.ErrShape},
		"a weight more":        {api.UnwrapTask{Map: phases(1, 0, 0, 0), Across: []int{1, 1, 1}}, api.ErrShape},
		"one down missing":     {api.UnwrapTask{Map: phases(3, 0, 0, 0), Down: []int{1}}, api.ErrShape},
		"one down more":        {api.UnwrapTask{Map: phases(3, 0, 0, 0), Down: []int{1, 1, 1}}, api.ErrShape},
		"both changed":         {api.UnwrapTask{Map: phases(2, 0, 0, 0, 0, 0, 0), Across: []int{1, 1, 1}, Down: []int{1, 1, 1, 1}}, api.ErrShape},
		"a great weight":       {api.UnwrapTask{Map: phases(1, 0, 0, 0), Across: []int{1, 1001}}, api.ErrRange},
		"a weight below 0":     {api.UnwrapTask{Map: phases(1, 0, 0, 0), Across: []int{-1, 1}}, api.ErrRange},
		"a great one down":     {api.UnwrapTask{Map: phases(3, 0, 0, 0), Down: []int{1001, 1}}, api.ErrRange},
		"one down below 0":     {api.UnwrapTask{Map: phases(3, 0, 0, 0), Down: []int{1, -1}}, api.ErrRange},
		"a void one's weight":  {api.UnwrapTask{Map: phases(1, void, 0), Across: []int{math.MinInt}}, api.ErrRange},
	}
	for what, x := range wrongMaps() {
		task := api.UnwrapTask{Map: x.x}
		if rows, columns := x.x.Rows, x.x.Columns; rows > 0 && columns > 0 && rows < 100 && columns < 100 {
			task = even(x.x, 1)
		}
		tasks[what] = wrong[api.UnwrapTask]{task, x.e}
	}
	return tasks
}
