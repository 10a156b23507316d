package unwrap_test

import (
	"fmt"
	"math"
	"slices"
	"testing"

	"swath/api"
	"swath/unwrap"
)

// taskFunctions calls all functions of a task with other arguments that are wrong in any case.
func taskFunctions() map[string]func(t api.UnwrapTask) (string, api.Errno) {
	return map[string]func(t api.UnwrapTask) (string, api.Errno){
		"CheckTask": func(t api.UnwrapTask) (string, api.Errno) { return "", unwrap.CheckTask(t) },
		"NetOf":     func(t api.UnwrapTask) (string, api.Errno) { x, e := unwrap.NetOf(t); return fmt.Sprint(x), e },
		"CheckField": func(t api.UnwrapTask) (string, api.Errno) {
			x, e := unwrap.CheckField(t, api.PhaseMap{})
			return fmt.Sprint(x), e
		},
		"Unwrap": func(t api.UnwrapTask) (string, api.Errno) {
			x, y, z, e := unwrap.Unwrap(t)
			return fmt.Sprint(x, y, z), e
		},
		"CheckFlow": func(t api.UnwrapTask) (string, api.Errno) {
			x, e := unwrap.CheckFlow(t, make([]int, 700))
			return fmt.Sprint(x), e
		},
		"Cuts": func(t api.UnwrapTask) (string, api.Errno) {
			x, e := unwrap.Cuts(t, api.PhaseMap{})
			return fmt.Sprint(x), e
		},
		"Undecided": func(t api.UnwrapTask) (string, api.Errno) { x, e := unwrap.Undecided(t); return fmt.Sprint(x), e },
	}
}

func TestP5_4TaskErrors(t *testing.T) {
	zeros := []string{"", "0", "[]", "{0 []}", "{0 0 []} [] 0"}
	for what, x := range wrongTasks() {
		for name, call := range taskFunctions() {
			got, e := call(x.x)
			if e != x.e || !slices.Contains(zeros, got) {
				t.Errorf("%s of %s: %s, error %d, want %d", name, what, got, e, x.e)
			}
		}
	}
}

func TestP5_4CheckTask(t *testing.T) {
	large := api.PhaseMap{Rows: 29, Columns: 5, Phases: slices.Repeat([]int{5000}, 145)}
	for what, x := range map[string]struct {
		t api.UnwrapTask
		e api.Errno
	}{
		"one pixel":                   {even(phases(1, 0), 1), api.OK},
		"a void pixel":                {even(phases(1, void), 1), api.OK},
		"144 pixels":                  {even(api.PhaseMap{Rows: 12, Columns: 12, Phases: make([]int, 144)}, 1000), api.OK},
		"a row of 64":                 {even(api.PhaseMap{Rows: 1, Columns: 64, Phases: make([]int, 64)}, 0), api.OK},
		"two columns of 64":           {even(api.PhaseMap{Rows: 64, Columns: 2, Phases: make([]int, 128)}, 0), api.OK},
		"the least and greatest ones": {even(phases(1, -2048, 2047, void), 1000), api.OK},
		"the third example":           {example(), api.OK},
		"a great row":                 {even(api.PhaseMap{Rows: 1, Columns: 65, Phases: make([]int, 65)}, 1), api.ErrRange},
		"large, and a great phase":    {even(large, 1), api.ErrLarge},
		"large, and no weights":       {api.UnwrapTask{Map: large}, api.ErrLarge},
		"a great phase, and shape":    {api.UnwrapTask{Map: phases(1, 0, 2048)}, api.ErrRange},
		"shape, and a great weight":   {api.UnwrapTask{Map: phases(1, 0, 0), Across: []int{1, 1001}}, api.ErrShape},
		"down's shape, and a weight":  {api.UnwrapTask{Map: phases(2, 0, 0, 0, 0), Across: []int{1001, -1}, Down: []int{1}}, api.ErrShape},
		"weights of one pixel":        {api.UnwrapTask{Map: phases(1, 0), Across: []int{1}}, api.ErrShape},
		"weights down of a row":       {api.UnwrapTask{Map: phases(1, 0, 0), Across: []int{1}, Down: []int{1}}, api.ErrShape},
		"weights across of a column":  {api.UnwrapTask{Map: phases(2, 0, 0), Across: []int{1}, Down: []int{1}}, api.ErrShape},
		"across instead of down":      {api.UnwrapTask{Map: phases(1, 0, 0), Down: []int{1}}, api.ErrShape},
		"a great weight":              {api.UnwrapTask{Map: phases(1, 0, 0), Across: []int{1001}}, api.ErrRange},
		"a great weight down":         {api.UnwrapTask{Map: phases(2, 0, 0), Down: []int{1001}}, api.ErrRange},
		"a weight below 0":            {api.UnwrapTask{Map: phases(1, 0, 0, 0), Across: []int{0, math.MinInt}}, api.ErrRange},
	} {
		if e := unwrap.CheckTask(x.t); e != x.e {
			t.Errorf("%s: error %d, want %d", what, e, x.e)
		}
	}
}

func TestP5_4NetOf(t *testing.T) {
	hole := api.UnwrapTask{Map: phases(2, 0, void, 5, 7, 8, 9), Across: []int{1, 2, 3, 4}, Down: []int{5, 6, 7}}
	for what, x := range map[string]struct {
		t api.UnwrapTask
		n api.UnwrapNet
	}{
		"the third example":  {example(), net(4, 0, 1, 0, 5, 2, 3, 0, 4, 0, 2, 0, 3, 1, 3, -1, 2)},
		"one pixel":          {even(phases(1, 7), 1), net(1)},
		"a void pixel":       {even(phases(1, void), 1), net(1)},
		"a row":              {api.UnwrapTask{Map: phases(1, 2047, -2048, 0, 2047), Across: []int{7, 8, 9}}, net(4, 0, 1, -1, 7, 1, 2, 1, 8, 2, 3, 0, 9)},
		"a column":           {api.UnwrapTask{Map: phases(4, 2047, -2048, 0, 2047), Down: []int{7, 8, 9}}, net(4, 0, 1, -1, 7, 1, 2, 1, 8, 2, 3, 0, 9)},
		"half a turn":        {api.UnwrapTask{Map: phases(1, 0, -2048, 0), Across: []int{1, 2}}, net(3, 0, 1, 0, 1, 1, 2, 1, 2)},
		"half a turn, later": {api.UnwrapTask{Map: phases(1, 1000, -1048, 1000), Across: []int{1, 2}}, net(3, 0, 1, 0, 1, 1, 2, 1, 2)},
		"nearly half a turn": {api.UnwrapTask{Map: phases(1, 1000, -1047, 1000), Across: []int{1, 2}}, net(3, 0, 1, 0, 1, 1, 2, 0, 2)},
		"more than half":     {api.UnwrapTask{Map: phases(2, 1000, -1049), Down: []int{1}}, net(2, 0, 1, -1, 1)},
		"a void one":         {hole, net(6, 3, 4, 0, 3, 4, 5, 0, 4, 0, 3, 0, 5, 2, 5, 0, 7)},
		"all void":           {even(phases(2, void, void, void, void), 5), net(4)},
		"weights of 0":       {api.UnwrapTask{Map: phases(1, 0, 1, 2), Across: []int{0, 3}}, net(3, 0, 1, 0, 0, 1, 2, 0, 3)},
	} {
		n, e := unwrap.NetOf(x.t)
		want(t, what, n, e, x.n, api.OK)
	}
	r := numbers{14}
	for range 200 {
		task := r.task(1+r.below(12), 1+r.below(12), r.below(6), 1000)
		n, e := unwrap.NetOf(task)
		want(t, fmt.Sprint(task), n, e, netOf(task), api.OK)
	}
	task := r.task(64, 2, 9, 1000)
	n, e := unwrap.NetOf(task)
	want(t, "64 rows", n, e, netOf(task), api.OK)
	task = r.task(2, 64, 0, 1000)
	n, e = unwrap.NetOf(task)
	want(t, "64 columns", n, e, netOf(task), api.OK)
}

func TestP5_4CheckField(t *testing.T) {
	hole := even(phases(1, 5, void, -2048), 7)
	for what, x := range map[string]struct {
		t    api.UnwrapTask
		u    api.PhaseMap
		cost int
		e    api.Errno
	}{
		"the third example":      {example(), phases(2, 0, 1500, -1500, -1096), 2, api.OK},
		"a turn at the last one": {example(), phases(2, 0, 1500, -1500, 3000), 4, api.OK},
		"a turn at the first":    {example(), phases(2, -4096, 1500, -1500, -1096), 2 + 5 + 3, api.OK},
		"all shifted":            {example(), phases(2, 40960, 42460, 39460, 39864), 2, api.OK},
		"void as well":           {hole, phases(1, 5-4096*9, void, 2048), 0, api.OK},
		"far away":               {even(phases(1, 0, 0), 1000), phases(1, -24414*4096, 24414*4096), 48828000, api.OK},
		"one pixel":              {even(phases(1, 9), 1), phases(1, 4096+9), 0, api.OK},
		"other rows":             {example(), phases(1, 0, 1500, -1500, -1096), 0, api.ErrShape},
		"other columns":          {example(), phases(4, 0, 1500, -1500, -1096), 0, api.ErrShape},
		"more rows":              {example(), phases(3, 0, 1500, -1500, -1096, 0, 0), 0, api.ErrShape},
		"a phase missing":        {example(), api.PhaseMap{Rows: 2, Columns: 2, Phases: []int{0, 1500, -1500}}, 0, api.ErrShape},
		"a phase more":           {example(), api.PhaseMap{Rows: 2, Columns: 2, Phases: []int{0, 1500, -1500, -1096, 0}}, 0, api.ErrShape},
		"rows alone differ":      {example(), api.PhaseMap{Rows: 1, Columns: 2, Phases: example().Map.Phases}, 0, api.ErrShape},
		"columns alone differ":   {example(), api.PhaseMap{Rows: 2, Columns: 3, Phases: example().Map.Phases}, 0, api.ErrShape},
		"no map":                 {example(), api.PhaseMap{}, 0, api.ErrShape},
		"shape and void":         {example(), phases(1, 0, void, -1500, -1096), 0, api.ErrShape},
		"void instead":           {example(), phases(2, 0, 1500, void, -1096), 0, api.ErrVoid},
		"not void":               {hole, phases(1, 5, 0, -2048), 0, api.ErrVoid},
		"not void, and great":    {hole, phases(1, 5, 100000001, -2048), 0, api.ErrVoid},
		"great":                  {even(phases(1, 0, 0), 1), phases(1, 24415*4096, 0), 0, api.ErrRange},
		"great below 0":          {even(phases(1, 0, 0), 1), phases(1, 0, -24415*4096), 0, api.ErrRange},
		"great, and no turns":    {even(phases(1, 0, 0), 1), phases(1, 0, 100000001), 0, api.ErrRange},
		"the least of all":       {even(phases(1, 0, 0), 1), phases(1, math.MinInt, 0), 0, api.ErrRange},
		"nearly void":            {even(phases(1, 0, 0), 1), phases(1, void-4096*9, 0), 0, api.ErrRange},
		"the opposite of void":   {hole, phases(1, 5, -void, -2048), 0, api.ErrVoid},
		"no whole turns":         {example(), phases(2, 0, 1500, -1500, -1095), 0, api.ErrUnit},
		"half a turn":            {example(), phases(2, 2048, 1500, -1500, -1096), 0, api.ErrUnit},
		"the greatest phase":     {even(phases(1, 0, 256), 1), phases(1, 0, 100000000), 24414, api.OK},
		"the least phase":        {even(phases(1, -256, 0), 1), phases(1, -100000000, 0), 24414, api.OK},
		"unit before void":       {example(), phases(2, 0, 1501, void, 0), 0, api.ErrUnit},
		"void before unit":       {example(), phases(2, 0, 1500, void, 0), 0, api.ErrVoid},
		"range before unit":      {example(), phases(2, 200000000, 1501, void, 0), 0, api.ErrRange},
		"unit before range":      {example(), phases(2, 0, 1501, 200000000, 0), 0, api.ErrUnit},
	} {
		cost, e := unwrap.CheckField(x.t, x.u)
		want(t, what, cost, e, x.cost, x.e)
		cuts, e := unwrap.Cuts(x.t, x.u)
		if e != x.e || e != api.OK && len(cuts) > 0 {
			t.Errorf("Cuts, %s: %v, error %d, want %d", what, cuts, e, x.e)
		}
	}
	r := numbers{15}
	for range 200 {
		task := r.task(1+r.below(12), 1+r.below(12), r.below(6), 1000)
		turns := r.turns(len(task.Map.Phases), 24000)
		cost, e := unwrap.CheckField(task, fieldWith(task, turns))
		want(t, fmt.Sprint(task), cost, e, costOf(netOf(task), turns), api.OK)
	}
}
