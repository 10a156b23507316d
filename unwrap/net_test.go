package unwrap_test

import (
	"fmt"
	"math"
	"slices"
	"testing"

	"swath/api"
	"swath/unwrap"
)

func TestP5_1CheckNet(t *testing.T) {
	edges600 := slices.Repeat(net(2, 0, 1, 1000, 1000).Edges, 600)
	edges601 := append(slices.Clone(edges600), api.UnwrapEdge{From: 5, To: 5, Jump: 2000, Weight: -1})
	last := append(slices.Clone(edges600[:599]), api.UnwrapEdge{From: 1, To: 0, Jump: 0, Weight: 1001})
	for what, x := range map[string]struct {
		n    api.UnwrapNet
		edge int
		e    api.Errno
	}{
		"nothing":                        {api.UnwrapNet{}, 0, api.OK},
		"200 nodes":                      {net(200), 0, api.OK},
		"the last nodes":                 {net(200, 199, 198, 0, 1, 0, 199, 0, 1), 0, api.OK},
		"the greatest numbers":           {net(2, 0, 1, 1000, 1000, 1, 0, -1000, 0), 0, api.OK},
		"several edges":                  {net(2, 0, 1, 1, 1, 0, 1, 1, 1, 1, 0, 3, 2), 0, api.OK},
		"600 edges":                      {api.UnwrapNet{Nodes: 2, Edges: edges600}, 0, api.OK},
		"nodes below 0":                  {net(-1), 0, api.ErrRange},
		"201 nodes":                      {net(201), 0, api.ErrRange},
		"many nodes":                     {net(math.MaxInt), 0, api.ErrRange},
		"201 nodes and 601 edges":        {api.UnwrapNet{Nodes: 201, Edges: edges601}, 0, api.ErrRange},
		"nodes below 0 and an edge":      {net(-1, 0, 1, 0, 1, 5, 5, 0, 1), 0, api.ErrRange},
		"601 edges":                      {api.UnwrapNet{Nodes: 2, Edges: edges601}, 0, api.ErrLarge},
		"601 edges, the first one wrong": {api.UnwrapNet{Nodes: 0, Edges: edges601}, 0, api.ErrLarge},
		"the last one of 600":            {api.UnwrapNet{Nodes: 2, Edges: last}, 599, api.ErrRange},
		"no node From":                   {net(3, 0, 1, 0, 1, 3, 1, 0, 1), 1, api.ErrMissing},
		"From below 0":                   {net(3, 0, 1, 0, 1, 0, 1, 0, 1, -1, 1, 0, 1), 2, api.ErrMissing},
		"no node To":                     {net(3, 0, 1, 0, 1, 0, 3, 0, 1), 1, api.ErrMissing},
		"To below 0":                     {net(3, 0, -1, 0, 1), 0, api.ErrMissing},
		"no nodes":                       {net(0, 0, 1, 0, 1), 0, api.ErrMissing},
		"the least node":                 {net(3, math.MinInt, math.MaxInt, 0, 1), 0, api.ErrMissing},
		"missing, and the same":          {net(3, 0, 1, 0, 1, 3, 3, 0, 1), 1, api.ErrMissing},
		"missing, and a great jump":      {net(3, 0, 3, 1001, 1001), 0, api.ErrMissing},
		"the same":                       {net(3, 0, 1, 0, 1, 2, 2, 0, 1), 1, api.ErrForm},
		"the same, and a great jump":     {net(3, 1, 1, 1001, -1), 0, api.ErrForm},
		"the same, of weight 0":          {net(3, 1, 1, 0, 0), 0, api.ErrForm},
		"a great jump":                   {net(3, 0, 1, 1001, 1), 0, api.ErrRange},
		"a great jump below 0":           {net(3, 0, 1, 1000, 1, 0, 1, -1001, 1), 1, api.ErrRange},
		"the least jump":                 {net(3, 0, 1, math.MinInt, 1), 0, api.ErrRange},
		"a great weight":                 {net(3, 0, 1, 0, 1, 0, 1, 0, 1001), 1, api.ErrRange},
		"a weight below 0":               {net(3, 0, 1, 0, 1, 0, 1, 0, 0, 0, 1, 0, -1), 2, api.ErrRange},
		"the first one of two":           {net(3, 0, 1, 0, 1, 0, 1, 0, -1, 0, 3, 0, 1), 1, api.ErrRange},
		"the first one of two, missing":  {net(3, 0, 1, 0, 1, 0, 3, 0, 1, 0, 1, 0, -1), 1, api.ErrMissing},
	} {
		edge, e := unwrap.CheckNet(x.n)
		want(t, what, edge, e, x.edge, x.e)
	}
}

// netFunctions calls all functions of a net that no other error can come from.
func netFunctions() map[string]func(n api.UnwrapNet) (any, api.Errno) {
	return map[string]func(n api.UnwrapNet) (any, api.Errno){
		"Parts":       func(n api.UnwrapNet) (any, api.Errno) { x, e := unwrap.Parts(n); return fmt.Sprint(x), e },
		"NetClasses":  func(n api.UnwrapNet) (any, api.Errno) { x, e := unwrap.NetClasses(n); return fmt.Sprint(x), e },
		"CheckTurns":  func(n api.UnwrapNet) (any, api.Errno) { x, e := unwrap.CheckTurns(n, nil); return fmt.Sprint(x), e },
		"CheckFlowOf": func(n api.UnwrapNet) (any, api.Errno) { x, e := unwrap.CheckFlowOf(n, nil); return fmt.Sprint(x), e },
		"NetBetween":  func(n api.UnwrapNet) (any, api.Errno) { x, e := unwrap.NetBetween(n, -1, 500); return fmt.Sprint(x), e },
		"SolveNet": func(n api.UnwrapNet) (any, api.Errno) {
			x, y, z, e := unwrap.SolveNet(n)
			return fmt.Sprint(x, y, z), e
		},
	}
}

func TestP5_1NetErrors(t *testing.T) {
	zeros := []any{"[]", "0", "{0 0}", "[] [] 0"}
	for what, x := range wrongNets() {
		for name, call := range netFunctions() {
			got, e := call(x.x)
			if e != x.e || !slices.Contains(zeros, got) {
				t.Errorf("%s of %s: %v, error %d, want %d", name, what, got, e, x.e)
			}
		}
	}
}

func TestP5_1Parts(t *testing.T) {
	for what, x := range map[string]struct {
		n     api.UnwrapNet
		parts []int
	}{
		"nothing":             {net(0), nil},
		"one node":            {net(1), []int{0}},
		"no edges":            {net(4), []int{0, 1, 2, 3}},
		"one edge":            {net(3, 1, 2, 0, 1), []int{0, 1, 1}},
		"one edge back":       {net(3, 2, 1, 0, 1), []int{0, 1, 1}},
		"the first with last": {net(4, 3, 0, 1, 1, 2, 1, 0, 1), []int{0, 1, 1, 0}},
		"crossed":             {net(6, 5, 1, 0, 1, 4, 0, 0, 1, 3, 5, 0, 1), []int{0, 1, 2, 1, 0, 1}},
		"of weight 0":         {net(3, 0, 1, 0, 0, 1, 2, 0, 1), []int{0, 1, 1}},
		"0 and 1 beside":      {net(3, 0, 1, 0, 0, 0, 1, 5, 1, 1, 0, 0, 0), []int{0, 0, 1}},
		"a triangle":          {net(3, 0, 1, 1, 5, 1, 2, 0, 3, 2, 0, 0, 2), []int{0, 0, 0}},
		"against the order":   {net(5, 3, 4, 0, 1, 2, 3, 0, 1, 1, 2, 0, 1, 0, 1, 0, 1), []int{0, 0, 0, 0, 0}},
	} {
		parts, e := unwrap.Parts(x.n)
		want(t, what, parts, e, x.parts, api.OK)
	}
	r := numbers{1}
	for range 300 {
		nodes := 2 + r.below(30)
		n := r.net(nodes, r.below(2*nodes), 1000, 1+r.below(3))
		parts, e := unwrap.Parts(n)
		want(t, fmt.Sprint(n), parts, e, partsOf(n), api.OK)
	}
}

// chain is a net of as many nodes as there may be, one behind the other, in an order that jumps to and fro.
func chain(jump, weight int) api.UnwrapNet {
	n := api.UnwrapNet{Nodes: 200}
	for i := range 199 {
		n.Edges = append(n.Edges, api.UnwrapEdge{From: i * 77 % 200, To: (i + 1) * 77 % 200, Jump: jump, Weight: weight})
	}
	return n
}

func TestP5_1PartsOfChains(t *testing.T) {
	n := chain(1000, 1)
	parts, e := unwrap.Parts(n)
	want(t, "a chain", parts, e, make([]int, 200), api.OK)
	n.Edges = slices.Delete(n.Edges, 100, 101)
	parts, e = unwrap.Parts(n)
	want(t, "two chains", parts, e, partsOf(n), api.OK)
	slices.Reverse(n.Edges)
	parts, e = unwrap.Parts(n)
	want(t, "two chains back", parts, e, partsOf(n), api.OK)
}

func TestP5_2CheckTurns(t *testing.T) {
	triangle := net(3, 0, 1, 1, 5, 1, 2, 0, 3, 2, 0, 0, 2)
	for what, x := range map[string]struct {
		n     api.UnwrapNet
		turns []int
		cost  int
		e     api.Errno
	}{
		"the first example":       {triangle, []int{0, -1, -1}, 2, api.OK},
		"no turns":                {triangle, []int{0, 0, 0}, 5, api.OK},
		"other turns":             {triangle, []int{0, -1, 0}, 3, api.OK},
		"shifted":                 {triangle, []int{7, 6, 6}, 2, api.OK},
		"excess below 0":          {triangle, []int{3, 0, 1}, 2*5 + 3 + 2*2, api.OK},
		"nothing":                 {net(0), nil, 0, api.OK},
		"no edges":                {net(2), []int{5, -9}, 0, api.OK},
		"the greatest turns":      {net(2, 0, 1, 1000, 1000), []int{-1000000, 1000000}, 2001000000, api.OK},
		"the greatest the other":  {net(2, 0, 1, -1000, 1000), []int{1000000, -1000000}, 2001000000, api.OK},
		"of weight 0":             {net(2, 0, 1, 1000, 0), []int{-1000000, 1000000}, 0, api.OK},
		"two edges":               {net(2, 0, 1, 1, 10, 1, 0, 1, 100), []int{0, 3}, 4*10 + 2*100, api.OK},
		"a turn missing":          {triangle, []int{0, 0}, 0, api.ErrShape},
		"a turn more":             {triangle, []int{0, 0, 0, 0}, 0, api.ErrShape},
		"no turn at all":          {triangle, nil, 0, api.ErrShape},
		"a turn of nothing":       {net(0), []int{0}, 0, api.ErrShape},
		"shape and range":         {triangle, []int{1000001}, 0, api.ErrShape},
		"great turns":             {triangle, []int{0, 0, 1000001}, 0, api.ErrRange},
		"great turns below 0":     {triangle, []int{-1000001, 0, 0}, 0, api.ErrRange},
		"the least of all":        {triangle, []int{0, math.MinInt, 0}, 0, api.ErrRange},
		"the greatest of all":     {net(1), []int{math.MaxInt}, 0, api.ErrRange},
		"a wrong net first":       {net(3, 0, 3, 0, 1), []int{1000001}, 0, api.ErrMissing},
		"a wrong net, and turns ": {net(2, 0, 0, 0, 1), nil, 0, api.ErrForm},
	} {
		cost, e := unwrap.CheckTurns(x.n, x.turns)
		want(t, what, cost, e, x.cost, x.e)
	}
	r := numbers{2}
	for range 200 {
		nodes := 2 + r.below(199)
		n := r.net(nodes, r.below(601), 1000, 1000)
		turns := r.turns(nodes, 1000000)
		cost, e := unwrap.CheckTurns(n, turns)
		want(t, "any turns", cost, e, costOf(n, turns), api.OK)
	}
}

func TestP5_2CheckFlowOf(t *testing.T) {
	triangle := net(3, 0, 1, 1, 5, 1, 2, 0, 3, 2, 0, 0, 2)
	for what, x := range map[string]struct {
		n     api.UnwrapNet
		flow  []int
		value int
		e     api.Errno
	}{
		"the first example":    {triangle, []int{2, 2, 2}, 2, api.OK},
		"less":                 {triangle, []int{1, 1, 1}, 1, api.OK},
		"back":                 {triangle, []int{-2, -2, -2}, -2, api.OK},
		"none":                 {triangle, []int{0, 0, 0}, 0, api.OK},
		"nothing":              {net(0), nil, 0, api.OK},
		"no edges":             {net(9), nil, 0, api.OK},
		"there and back":       {net(2, 0, 1, 1000, 1000, 1, 0, 999, 1000), []int{1000, 1000}, 1999000, api.OK},
		"the same way":         {net(2, 0, 1, 1000, 1000, 0, 1, -1000, 1000), []int{1000, -1000}, 2000000, api.OK},
		"the same way back":    {net(2, 0, 1, 1000, 1000, 0, 1, -1000, 1000), []int{-1000, 1000}, -2000000, api.OK},
		"of weight 0":          {net(2, 0, 1, 5, 0), []int{0}, 0, api.OK},
		"a number missing":     {triangle, []int{2, 2}, 0, api.ErrShape},
		"a number more":        {triangle, []int{2, 2, 2, 2}, 0, api.ErrShape},
		"as many as nodes":     {net(2, 0, 1, 5, 1), []int{0, 0}, 0, api.ErrShape},
		"shape and range":      {triangle, []int{6}, 0, api.ErrShape},
		"more than the weight": {triangle, []int{3, 3, 3}, 0, api.ErrRange},
		"more below 0":         {triangle, []int{-3, -3, -3}, 0, api.ErrRange},
		"range and open":       {triangle, []int{0, 1, 3}, 0, api.ErrRange},
		"not 0 of weight 0":    {net(2, 0, 1, 5, 0, 1, 0, 0, 1), []int{1, 1}, 0, api.ErrRange},
		"the least of all":     {triangle, []int{math.MinInt, 0, 0}, 0, api.ErrRange},
		"open":                 {triangle, []int{2, 2, 1}, 0, api.ErrOpen},
		"open at the end":      {net(3, 0, 1, 0, 1, 1, 2, 0, 1), []int{1, 1}, 0, api.ErrOpen},
		"open, but together 0": {net(4, 0, 1, 0, 1, 3, 2, 0, 1), []int{1, -1}, 0, api.ErrOpen},
		"two from one":         {net(2, 0, 1, 0, 1, 0, 1, 0, 1), []int{1, 1}, 0, api.ErrOpen},
		"against each other":   {net(2, 0, 1, 0, 1, 1, 0, 0, 1), []int{1, -1}, 0, api.ErrOpen},
		"a wrong net first":    {net(3, 0, 3, 0, 1), []int{5, 5}, 0, api.ErrMissing},
	} {
		value, e := unwrap.CheckFlowOf(x.n, x.flow)
		want(t, what, value, e, x.value, x.e)
	}
}

func TestP5_2AnyFlow(t *testing.T) {
	r := numbers{3}
	for range 200 {
		nodes := 2 + r.below(40)
		n := r.net(nodes, 1+r.below(3*nodes), 1000, 1000)
		flow := r.flow(n, 30)
		right, isRight := valueOf(n, flow)
		value, e := unwrap.CheckFlowOf(n, flow)
		want(t, "any flow", value, e, right, api.OK)
		if !isRight {
			t.Error("the flow of the test is wrong:", n, flow)
		}
		i := r.below(len(flow))
		rightError := api.ErrOpen
		if flow[i]++; flow[i] > n.Edges[i].Weight {
			rightError = api.ErrRange
		}
		value, e = unwrap.CheckFlowOf(n, flow)
		want(t, "any flow, and more", value, e, 0, rightError)
	}
}
