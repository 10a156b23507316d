package unwrap_test

import (
	"fmt"
	"math"
	"slices"
	"testing"

	"swath/api"
	"swath/unwrap"
)

const turn = 4096

func TestP5_8Shifted(t *testing.T) {
	for what, x := range map[string]struct {
		u     api.PhaseMap
		turns int
		right api.PhaseMap
	}{
		"by 1":          {phases(1, 5, void, -7000), 1, phases(1, 4101, void, -2904)},
		"by -2":         {phases(3, 5, void, -7000), -2, phases(3, -8187, void, -15192)},
		"by 0":          {phases(2, 5, void, 6, 7), 0, phases(2, 5, void, 6, 7)},
		"by the most":   {phases(1, 0), 1000, phases(1, 4096000)},
		"by the least":  {phases(1, 0), -1000, phases(1, -4096000)},
		"to the limit":  {phases(1, 100000000-4096, void), 1, phases(1, 100000000, void)},
		"to the least":  {phases(1, -100000000+4096, 100000000), -1, phases(1, -100000000, 100000000-4096)},
		"all void ones": {phases(1, void, void), 1000, phases(1, void, void)},
		"from a limit":  {phases(1, 100000000), -1000, phases(1, 95904000)},
	} {
		u, e := unwrap.Shifted(x.u, x.turns)
		want(t, what, u, e, x.right, api.OK)
	}
	large := api.PhaseMap{Rows: 64, Columns: 64, Phases: slices.Repeat([]int{-9}, 4096)}
	u, e := unwrap.Shifted(large, 2)
	want(t, "the largest map", u, e, api.PhaseMap{Rows: 64, Columns: 64, Phases: slices.Repeat([]int{2*4096 - 9}, 4096)}, api.OK)
}

func TestP5_8ShiftedErrors(t *testing.T) {
	for what, x := range map[string]struct {
		u     api.PhaseMap
		turns int
		e     api.Errno
	}{
		"too many turns":      {phases(1, 0), 1001, api.ErrRange},
		"too many below 0":    {phases(1, 0), -1001, api.ErrRange},
		"the most of all":     {phases(1, 0), math.MaxInt, api.ErrRange},
		"the least of all":    {phases(1, void), math.MinInt, api.ErrRange},
		"range before large":  {phases(1, 100000000), 1001, api.ErrRange},
		"too large":           {phases(1, 0, 100000000-4095), 1, api.ErrLarge},
		"too large below 0":   {phases(1, void, -100000000+4095, 0), -1, api.ErrLarge},
		"large beside void":   {phases(1, void, 100000000), 1000, api.ErrLarge},
		"a wrong map":         {phases(1, 100000001), -1, api.ErrRange},
		"half a map, and far": {api.PhaseMap{Rows: 2, Columns: 1, Phases: []int{1}}, 2000, api.ErrShape},
	} {
		u, e := unwrap.Shifted(x.u, x.turns)
		wantError(t, what, u, e, x.e)
	}
	for what, x := range wrongMaps() {
		for _, turns := range []int{0, 1001} {
			u, e := unwrap.Shifted(x.x, turns)
			wantError(t, what, u, e, x.e)
		}
	}
}

func TestP5_8Joined(t *testing.T) {
	for what, x := range map[string]struct {
		a, b    api.PhaseMap
		overlap int
		right   api.PhaseMap
		others  int
	}{
		"the seventh example":       {phases(1, 100, 200), phases(1, 4296, 300), 1, phases(1, 100, 200, -3796), 0},
		"no shift":                  {phases(1, 1, 2), phases(1, 2, 3), 1, phases(1, 1, 2, 3), 0},
		"up":                        {phases(1, 1, 2+2*turn), phases(1, 2, 3), 1, phases(1, 1, 2+2*turn, 3+2*turn), 0},
		"all of b":                  {phases(1, 1, 2, 3), phases(1, 3+turn), 1, phases(1, 1, 2, 3), 0},
		"all of a":                  {phases(1, 1), phases(1, 1-turn, 9), 1, phases(1, 1, 9+turn), 0},
		"all of both":               {phases(1, 1, 2), phases(1, 1-turn, 2-turn), 2, phases(1, 1, 2), 0},
		"the most of three":         {phases(3, 0, 0, 0), phases(3, turn, 7, 0, 8, turn, 9), 1, phases(3, 0, 7-turn, 0, 8-turn, 0, 9-turn), 1},
		"one of three each":         {phases(3, 0, 0, 0), phases(3, -turn, 7, 0, 8, turn, 9), 1, phases(3, 0, 7-turn, 0, 8-turn, 0, 9-turn), 2},
		"two of two":                {phases(2, 0, 0, 0, 0), phases(2, -turn, -2*turn, -2*turn, -turn), 2, phases(2, 0, 0, 0, 0), 2},
		"less than nothing":         {phases(2, 0, 0), phases(2, 0, 5, 3*turn, 6), 1, phases(2, 0, 5-3*turn, 0, 6-3*turn), 1},
		"nothing rather than 3":     {phases(2, 0, 0), phases(2, 0, 5, -3*turn, 6), 1, phases(2, 0, 5, 0, 6), 1},
		"2 rather than 3":           {phases(2, 0, 0), phases(2, -2*turn, 5, -3*turn, 6), 1, phases(2, 0, 5+2*turn, 0, 6+2*turn), 1},
		"a void in a":               {phases(2, 1, void, 3, 4), phases(2, 9, 2, 4-turn, 5), 1, phases(2, 1, 9+turn, 2+turn, 3, 4, 5+turn), 0},
		"a void in b":               {phases(2, 1, 2, 3, 4), phases(2, void, 2, 4-turn, void), 1, phases(2, 1, 2, 2+turn, 3, 4, void), 0},
		"a void in both":            {phases(2, 1, void, 3, 4), phases(2, void, 2, 4, 5), 1, phases(2, 1, void, 2, 3, 4, 5), 0},
		"a void one beside":         {phases(1, void, 2), phases(1, 2-turn, void), 1, phases(1, void, 2, void), 0},
		"void ones do not count":    {phases(3, void, void, 0), phases(3, 5, 9, 6, 9, turn, 9), 1, phases(3, 5-turn, 9-turn, 6-turn, 9-turn, 0, 9-turn), 0},
		"a covers b":                {phases(1, 0, 0, 0), phases(1, turn, turn, 5*turn, 7), 3, phases(1, 0, 0, 0, 7-turn), 1},
		"a covers a great b":        {phases(1, 0, 0, 99999744), phases(1, -99999744, -99999744, 0, 7), 3, phases(1, 0, 0, 99999744, 99999751), 0},
		"a covers b beyond a limit": {phases(1, 4096, 4096, 99999744), phases(1, 0, 0, 99999744, 7), 3, phases(1, 4096, 4096, 99999744, 4103), 1},
		"up to the limit":           {phases(1, 4096), phases(1, 0, 99995904), 1, phases(1, 4096, 100000000), 0},
		"down to the limit":         {phases(1, void, -4096), phases(1, 0, -99995904), 1, phases(1, void, -4096, -100000000), 0},
		"from limit to limit":       {phases(1, 99999744), phases(1, -99999744, -99999744), 1, phases(1, 99999744, 99999744), 0},
	} {
		u, others, e := unwrap.Joined(x.a, x.b, x.overlap)
		want(t, what, u, e, x.right, api.OK)
		want(t, what, others, e, x.others, api.OK)
	}
}

func TestP5_8JoinedErrors(t *testing.T) {
	wide := api.PhaseMap{Rows: 1, Columns: 64, Phases: make([]int, 64)}
	for what, x := range map[string]struct {
		a, b    api.PhaseMap
		overlap int
		e       api.Errno
	}{
		"other rows":              {phases(1, 0), phases(2, 0, 0), 1, api.ErrClash},
		"other rows and overlap":  {phases(1, 0), phases(2, 0, 0), 0, api.ErrClash},
		"no overlap":              {phases(1, 0, 0), phases(1, 0, 0), 0, api.ErrRange},
		"overlap below 0":         {phases(1, 0, 0), phases(1, 0, 0), -1, api.ErrRange},
		"more than a":             {phases(1, 0), phases(1, 0, 0), 2, api.ErrRange},
		"more than b":             {phases(1, 0, 0), phases(1, 0), 2, api.ErrRange},
		"the least of all":        {phases(1, 0, 0), phases(1, 0, 0), math.MinInt, api.ErrRange},
		"the greatest of all":     {phases(1, 0, 0), phases(1, 0, 0), math.MaxInt, api.ErrRange},
		"range before large":      {wide, wide, 0, api.ErrRange},
		"65 columns":              {wide, phases(1, 0, 0), 1, api.ErrLarge},
		"large before unit":       {wide, phases(1, 1, 0), 1, api.ErrLarge},
		"no whole turns":          {phases(1, 0, 0), phases(1, 1, 0), 1, api.ErrUnit},
		"half a turn":             {phases(1, 0, 0), phases(1, 2048, 0), 1, api.ErrUnit},
		"at the last one":         {phases(2, 0, 0, 0, 0), phases(2, 0, 0, 0, -4095), 2, api.ErrUnit},
		"at one of many":          {phases(3, 0, 0, 0), phases(3, 4096, 4097, 4096), 1, api.ErrUnit},
		"unit before large":       {phases(2, 4096, 0), phases(2, 0, 99999999, 5, 7), 1, api.ErrUnit},
		"void ones alone":         {phases(2, 0, void, 0, 5), phases(2, 5, 0, void, 0), 1, api.ErrNone},
		"all of a void":           {phases(1, void), phases(1, void), 1, api.ErrNone},
		"none, whatever else is":  {phases(1, void, 5), phases(1, void, 100000000), 1, api.ErrNone},
		"too large":               {phases(1, 4096), phases(1, 0, 99995905), 1, api.ErrLarge},
		"too large below 0":       {phases(1, -4096), phases(1, 0, -99995905), 1, api.ErrLarge},
		"too large where a is":    {phases(1, 4096, void), phases(1, 0, 99995905), 2, api.ErrLarge},
		"far too large":           {phases(1, 99999744), phases(1, -99999744, 99999999), 1, api.ErrLarge},
		"a wrong first map":       {phases(1, 100000001), api.PhaseMap{}, 0, api.ErrRange},
		"a wrong second map":      {phases(1, 0), api.PhaseMap{Rows: 2, Columns: 2}, 0, api.ErrShape},
		"a wrong one covered":     {phases(1, 0), phases(1, 100000001), 1, api.ErrRange},
		"a wrong shape, and rows": {api.PhaseMap{Rows: 2, Columns: 1, Phases: []int{1}}, phases(1, 0), 5, api.ErrShape},
	} {
		u, others, e := unwrap.Joined(x.a, x.b, x.overlap)
		wantError(t, what, u, e, x.e)
		wantError(t, what, others, e, x.e)
	}
	u, others, e := unwrap.Joined(wide, phases(1, 0, 0), 2)
	want(t, "64 columns", u, e, wide, api.OK)
	want(t, "64 columns", others, e, 0, api.OK)
	for what, x := range wrongMaps() {
		for _, other := range []api.PhaseMap{phases(1, 0, 0), {Rows: 1, Columns: 65}, phases(2, 0, 0)} {
			u, others, e := unwrap.Joined(x.x, other, 0)
			wantError(t, what, u, e, x.e)
			wantError(t, what, others, e, x.e)
		}
		u, others, e := unwrap.Joined(phases(1, 0, 0), x.x, 0)
		wantError(t, what, u, e, x.e)
		wantError(t, what, others, e, x.e)
	}
}

// columns returns some columns of a map.
func columns(m api.PhaseMap, from, to int) api.PhaseMap {
	u := api.PhaseMap{Rows: m.Rows, Columns: to - from}
	for row := range m.Rows {
		u.Phases = append(u.Phases, m.Phases[row*m.Columns+from:row*m.Columns+to]...)
	}
	return u
}

func TestP5_12Joined(t *testing.T) {
	r := numbers{26}
	for range 100 {
		whole := r.smooth(1+r.below(64), 2+r.below(63))
		overlap := 1 + r.below(whole.Columns-1)
		first := r.below(whole.Columns - overlap)
		for i := range whole.Phases {
			if i%whole.Columns != first && r.below(5) == 0 {
				whole.Phases[i] = void
			}
		}
		a, b := columns(whole, 0, first+overlap), columns(whole, first, whole.Columns)
		ofA, ofB := r.within(1000), r.within(1000)
		a, e := unwrap.Shifted(a, ofA)
		b, f := unwrap.Shifted(b, ofB)
		right, g := unwrap.Shifted(whole, ofA)
		if e != api.OK || f != api.OK || g != api.OK {
			t.Fatal(e, f, g)
		}
		u, others, e := unwrap.Joined(a, b, overlap)
		want(t, "joined", u, e, right, api.OK)
		want(t, "joined", others, e, 0, api.OK)
	}
}

// Any turns between the maps: the votes are counted anew.
func TestP5_8JoinedVotes(t *testing.T) {
	r := numbers{27}
	for range 200 {
		rows, overlap := 1+r.below(6), 1+r.below(3)
		base := r.smooth(rows, overlap+2)
		a := api.PhaseMap{Rows: rows, Columns: overlap + 1, Phases: slices.Clone(columns(base, 0, overlap+1).Phases)}
		b := api.PhaseMap{Rows: rows, Columns: overlap + 1, Phases: slices.Clone(columns(base, 1, overlap+2).Phases)}
		var mores []int
		for i := range b.Phases {
			more := r.within(2)
			b.Phases[i] -= more * turn
			if row, column := i/(overlap+1), i%(overlap+1); column < overlap {
				if r.below(5) == 0 {
					a.Phases[row*(overlap+1)+1+column] = void
				} else {
					mores = append(mores, more)
				}
			}
		}
		shift, most := far, 0
		for more := -2; more <= 2; more++ {
			n := 0
			for _, m := range mores {
				if m == more {
					n++
				}
			}
			if n > most {
				shift, most = more, n
			}
		}
		u, others, e := unwrap.Joined(a, b, overlap)
		if len(mores) == 0 {
			wantError(t, "no pixels in both", u, e, api.ErrNone)
			continue
		}
		want(t, fmt.Sprint(a, b), others, e, len(mores)-most, api.OK)
		for row := range rows {
			for column := range overlap + 2 {
				right := void
				if column <= overlap {
					right = a.Phases[row*(overlap+1)+column]
				}
				if column > 0 && right == void {
					right = b.Phases[row*(overlap+1)+column-1] + shift*turn
				}
				if len(u.Phases) != rows*(overlap+2) || u.Phases[row*(overlap+2)+column] != right {
					t.Fatal(a, b, overlap, "joined to", u, "but in row", row, "column", column, "belongs", right)
				}
			}
		}
	}
}
