package unwrap_test

import (
	"testing"

	"swath/api"
	"swath/unwrap"
)

func TestP5_7WeightsOf(t *testing.T) {
	for what, x := range map[string]struct {
		c            api.FloatMap
		across, down []int
	}{
		"the sixth example": {floats(2, 900, 400, 1000, 0), []int{400, 0}, []int{900, 0}},
		"one number":        {floats(1, 5), nil, nil},
		"a row":             {floats(1, 5, 3, 7, 7), []int{3, 3, 7}, nil},
		"a column":          {floats(4, 5, 3, 7, 7), nil, []int{3, 3, 7}},
		"two rows":          {floats(2, 6, 5, 4, 1, 2, 3), []int{5, 4, 1, 2}, []int{1, 2, 3}},
		"three rows":        {floats(3, 6, 5, 4, 1, 2, 3), []int{5, 1, 2}, []int{4, 1, 2, 1}},
		"minus zero":        {floats(1, minus, 0, minus), []int{0, 0}, nil},
		"the greatest":      {floats(1, 1000, 1000), []int{1000}, nil},
	} {
		across, down, e := unwrap.WeightsOf(x.c)
		want(t, what, across, e, x.across, api.OK)
		want(t, what, down, e, x.down, api.OK)
	}
	r := numbers{25}
	for _, size := range [][2]int{{12, 12}, {1, 64}, {64, 1}, {64, 2}, {2, 64}, {9, 16}, {16, 9}, {3, 7}} {
		c := api.FloatMap{Rows: size[0], Columns: size[1]}
		for range size[0] * size[1] {
			c.Data = append(c.Data, float32(r.below(1001)))
		}
		var right []int
		for _, pair := range neighbours(size[0], size[1]) {
			right = append(right, int(min(c.Data[pair[0]], c.Data[pair[1]])))
		}
		first := size[0] * (size[1] - 1)
		across, down, e := unwrap.WeightsOf(c)
		want(t, "across", across, e, right[:first], api.OK)
		want(t, "down", down, e, right[first:], api.OK)
		task := api.UnwrapTask{Map: r.wrappedMap(size[0], size[1], 9), Across: across, Down: down}
		if e := unwrap.CheckTask(task); e != api.OK {
			t.Error("no weights of a task:", e)
		}
	}
}

func TestP5_7WeightsOfErrors(t *testing.T) {
	large := api.FloatMap{Rows: 29, Columns: 5, Data: make([]float32, 145)}
	large.Data[0] = 0.5
	for what, x := range map[string]wrong[api.FloatMap]{
		"145 numbers":            {large, api.ErrLarge},
		"the largest":            {api.FloatMap{Rows: 64, Columns: 64, Data: make([]float32, 4096)}, api.ErrLarge},
		"a half":                 {floats(1, 1, 0.5), api.ErrWhole},
		"a half below 0":         {floats(1, 1, -0.5), api.ErrWhole},
		"a half too much":        {floats(1, 1000.5, 1), api.ErrWhole},
		"no number":              {floats(1, 1, notANumber), api.ErrWhole},
		"infinity":               {floats(1, inf), api.ErrWhole},
		"infinity below 0":       {floats(1, 0, 0, -inf), api.ErrWhole},
		"too much":               {floats(1, 0, 1001), api.ErrRange},
		"below 0":                {floats(1, -1, 0), api.ErrRange},
		"far too much":           {floats(1, 0, 1e30), api.ErrRange},
		"far below 0":            {floats(1, 0, -1e30), api.ErrRange},
		"whole before range":     {floats(1, 0, 0.5, 1001), api.ErrWhole},
		"range before whole":     {floats(1, 0, 1001, notANumber), api.ErrRange},
		"range before its whole": {floats(1, 0, 2000.5, -1), api.ErrWhole},
		"shape before whole":     {api.FloatMap{Rows: 2, Columns: 2, Data: []float32{0.5}}, api.ErrShape},
	} {
		across, down, e := unwrap.WeightsOf(x.x)
		wantError(t, what, across, e, x.e)
		wantError(t, what, down, e, x.e)
	}
	for what, x := range wrongSizes() {
		across, down, e := unwrap.WeightsOf(api.FloatMap{Rows: x.x[0], Columns: x.x[1], Data: make([]float32, x.x[2])})
		wantError(t, what, across, e, x.e)
		wantError(t, what, down, e, x.e)
	}
}
