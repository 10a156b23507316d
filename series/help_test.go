package series_test

import (
	"fmt"
	"math"
	"math/big"
	"slices"
	"testing"

	"swath/api"
)

// want compares a result and an error with those that are right. A nil slice and an empty one are the same, as they
// are written alike.
func want[T any](t *testing.T, what string, got T, e api.Errno, right T, rightError api.Errno) {
	t.Helper()
	if e != rightError {
		t.Errorf("%s: error %d, want %d", what, e, rightError)
	}
	if fmt.Sprint(got) != fmt.Sprint(right) {
		t.Errorf("%s: %v, want %v", what, got, right)
	}
}

// wantError checks an error, and that a result beside one is zero.
func wantError[T any](t *testing.T, what string, got T, e api.Errno, right api.Errno) {
	t.Helper()
	if e != right {
		t.Errorf("%s: error %d, want %d", what, e, right)
	}
	zeroBeside(t, what, got, e)
}

func zeroBeside[T any](t *testing.T, what string, got T, e api.Errno) {
	t.Helper()
	var zero T
	if e != api.OK && fmt.Sprint(got) != fmt.Sprint(zero) {
		t.Errorf("%s: %v beside the error %d", what, got, e)
	}
}

// A wrong argument with its error.
type wrong[T any] struct {
	x T
	e api.Errno
}

// dates returns a series of dates with such days, bases, phases and margins.
func dates(numbers ...int) api.SeriesPoint {
	s := api.SeriesPoint{Name: "p"}
	for of := range slices.Chunk(numbers, 4) {
		s.Epochs = append(s.Epochs, api.SeriesEpoch{Day: of[0], Base: of[1], Phase: of[2], Margin: of[3]})
	}
	return s
}

// example returns the series of the examples.
func example() api.SeriesPoint { return dates(0, 0, 0, 0, 10, 10, 30, 0, 20, 0, 40, 0) }

// changed returns a series in which a date is changed.
func changed(s api.SeriesPoint, epoch int, change func(date *api.SeriesEpoch)) api.SeriesPoint {
	s.Epochs = slices.Clone(s.Epochs)
	change(&s.Epochs[epoch])
	return s
}

// points returns a screen of points with such places, heights and phases.
func points(numbers ...int) []api.ScreenPoint {
	var l []api.ScreenPoint
	for of := range slices.Chunk(numbers, 4) {
		l = append(l, api.ScreenPoint{X: of[0], Y: of[1], Height: of[2], Phase: of[3]})
	}
	return l
}

// exampleScreen returns the screen of the examples, with places beside each other.
func exampleScreen() []api.ScreenPoint { return points(0, 0, 0, 1, 1, 0, 10, 5, 0, 1, 20, 9) }

func exampleMoved() api.SeriesMoved {
	return api.SeriesMoved{First: 100, FirstMargin: 10, Second: 20, SecondMargin: 6, Wave: 560}
}

func sight(up, east, lo, hi int) api.TrackSight {
	return api.TrackSight{Up: up, East: east, Moved: api.Range{Lo: lo, Hi: hi}}
}

func tracks(first, second api.TrackSight) api.TwoTracks {
	return api.TwoTracks{First: first, Second: second}
}

// exampleTracks returns the tracks of the examples, the first one of which saw 10 to 13.
func exampleTracks() api.TwoTracks { return tracks(sight(800, 600, 10, 13), sight(800, -600, 6, 6)) }

// wrongSeries returns series with the errors that each function of a series returns.
func wrongSeries() map[string]wrong[api.SeriesPoint] {
	named := func(name string, s api.SeriesPoint) api.SeriesPoint { s.Name = name; return s }
	many := func(n int) api.SeriesPoint {
		s := dates()
		for i := range n {
			s.Epochs = append(s.Epochs, api.SeriesEpoch{Day: i})
		}
		return s
	}
	return map[string]wrong[api.SeriesPoint]{
		"nothing":                         {api.SeriesPoint{}, api.ErrName},
		"no name":                         {named("", example()), api.ErrName},
		"a digit first":                   {named("1a", example()), api.ErrName},
		"a line first":                    {named("-a", example()), api.ErrName},
		"a blank":                         {named("a b", example()), api.ErrName},
		"a letter that is not ASCII":      {named("\u00e4", example()), api.ErrName},
		"13 letters":                      {named("abcdefghijklm", example()), api.ErrName},
		"a byte that is none":             {named("a\xff", example()), api.ErrName},
		"a wrong name and no dates":       {named("a_b", dates()), api.ErrName},
		"a wrong name and 21 dates":       {named("", many(21)), api.ErrName},
		"a wrong name and a wrong date":   {named("", dates(-1, 0, 0, 0)), api.ErrName},
		"no dates":                        {dates(), api.ErrShape},
		"21 dates":                        {many(21), api.ErrLarge},
		"1000 dates":                      {many(1000), api.ErrLarge},
		"21 wrong dates":                  {named("p", api.SeriesPoint{Epochs: make([]api.SeriesEpoch, 21)}), api.ErrLarge},
		"a day below 0":                   {dates(-1, 0, 0, 0), api.ErrRange},
		"a late day":                      {dates(100001, 0, 0, 0), api.ErrRange},
		"a late second day":               {dates(100000, 0, 0, 0, 100001, 0, 0, 0), api.ErrRange},
		"the first day of all":            {dates(math.MinInt, 0, 0, 0), api.ErrRange},
		"the last day of all":             {dates(0, 0, 0, 0, math.MaxInt, 0, 0, 0), api.ErrRange},
		"a great base":                    {dates(0, 101, 0, 0), api.ErrRange},
		"a base far below 0":              {dates(0, -101, 0, 0), api.ErrRange},
		"the least base of all":           {dates(0, 0, 0, 0, 1, math.MinInt, 0, 0), api.ErrRange},
		"a great phase":                   {dates(0, 0, 16001, 0), api.ErrRange},
		"a phase far below 0":             {dates(0, 0, -16001, 0), api.ErrRange},
		"the least phase of all":          {dates(0, 0, math.MinInt, 0), api.ErrRange},
		"a void phase":                    {dates(0, 0, 0, 0, 1, 1, api.PhaseVoid, 0), api.ErrRange},
		"a margin below 0":                {dates(0, 0, 0, -1), api.ErrRange},
		"a great margin":                  {dates(0, 0, 0, 2049), api.ErrRange},
		"the last margin":                 {dates(0, 0, 0, 0, 5, 0, 0, 0, 9, 0, 0, 2049), api.ErrRange},
		"a day twice":                     {dates(0, 0, 0, 0, 0, 0, 0, 0), api.ErrOrder},
		"a day before":                    {dates(5, 0, 0, 0, 4, 0, 0, 0), api.ErrOrder},
		"a third day before":              {dates(0, 0, 0, 0, 9, 0, 0, 0, 8, 0, 0, 0), api.ErrOrder},
		"a span of 401 days":              {dates(0, 0, 0, 0, 401, 0, 0, 0), api.ErrLarge},
		"a span of three dates":           {dates(7, 0, 0, 0, 207, 0, 0, 0, 408, 0, 0, 0), api.ErrLarge},
		"a day far behind":                {dates(0, 0, 0, 0, 100000, 0, 0, 0), api.ErrLarge},
		"a base of a day twice":           {dates(0, 0, 0, 0, 0, 101, 0, 0), api.ErrRange},
		"a margin of a day far behind":    {dates(0, 0, 0, 0, 401, 0, 0, 2049), api.ErrRange},
		"a day before, then a far one":    {dates(10, 0, 0, 0, 5, 0, 0, 0, 999, 0, 0, 0), api.ErrOrder},
		"a far day, then one before":      {dates(10, 0, 0, 0, 999, 0, 0, 0, 5, 0, 0, 0), api.ErrLarge},
		"a far day, then a wrong base":    {dates(10, 0, 0, 0, 999, 0, 0, 0, 1000, 999, 0, 0), api.ErrLarge},
		"a day twice, then a wrong base":  {dates(10, 0, 0, 0, 10, 0, 0, 0, 1000, 999, 0, 0), api.ErrOrder},
		"a wrong phase, then a day twice": {dates(10, 0, 16001, 0, 10, 0, 0, 0), api.ErrRange},
	}
}

// rightSeries returns series at the edges of what is right.
func rightSeries() map[string]api.SeriesPoint {
	full := dates()
	for i := range api.MaxEpochs {
		full.Epochs = append(full.Epochs, api.SeriesEpoch{Day: 21 * i, Base: 100 - 10*(i*i%21), Phase: 16000 - 3000*(i%11), Margin: 2048})
	}
	named := example()
	named.Name = "Z9-abcdefghi"
	return map[string]api.SeriesPoint{
		"the example":       example(),
		"another name":      named,
		"one date":          dates(0, 0, 0, 0),
		"one date, far":     dates(100000, -100, -16000, 2048),
		"the other edge":    dates(0, 100, 16000, 2048),
		"two dates":         dates(0, 0, 0, 0, 1, 0, 0, 0),
		"a span of 400":     dates(0, 100, -16000, 0, 400, -100, 16000, 2048),
		"a late span":       dates(99600, 1, 2, 3, 99999, 4, 5, 6, 100000, 7, 8, 9),
		"20 dates":          full,
		"one base":          dates(3, 7, 1, 1, 4, 7, 2, 1, 6, 7, 4, 1),
		"no bases":          dates(3, 0, 1, 1, 4, 0, 2, 1, 6, 0, 4, 1),
		"bases like days":   dates(3, 0, 1, 1, 4, 2, 2, 1, 6, 6, 4, 1),
		"days and more":     dates(3, 50, 1, 1, 4, 48, 2, 1, 6, 44, 5, 1, 13, 30, 1, 0),
		"great differences": dates(0, -100, 16000, 1, 200, 100, -16000, 2048, 400, -100, 16000, 3),
		"all margins":       dates(0, 0, 0, 1, 10, 10, 30, 1, 20, 0, 40, 1),
		"a flat fit":        dates(0, 1, 5, 1, 10, 9, 5, 1, 20, 0, 5, 1, 33, 6, 5, 2048),
	}
}

// wrongScreens returns screens with the errors that each function of a screen returns.
func wrongScreens() map[string]wrong[[]api.ScreenPoint] {
	with := func(l ...int) []api.ScreenPoint { return append(exampleScreen(), points(l...)...) }
	return map[string]wrong[[]api.ScreenPoint]{
		"nothing":               {nil, api.ErrShape},
		"no points":             {[]api.ScreenPoint{}, api.ErrShape},
		"25 points":             {make([]api.ScreenPoint, 25), api.ErrLarge},
		"25 wrong points":       {slices.Repeat(points(999, 0, 0, 0), 25), api.ErrLarge},
		"X too great":           {with(201, 0, 0, 0), api.ErrRange},
		"X too small":           {with(-201, 0, 0, 0), api.ErrRange},
		"Y too great":           {with(0, 201, 0, 0), api.ErrRange},
		"Y too small":           {with(0, -201, 0, 0), api.ErrRange},
		"a great height":        {with(0, 0, 201, 0), api.ErrRange},
		"a height far below 0":  {with(0, 0, -201, 0), api.ErrRange},
		"a great phase":         {with(0, 0, 0, 16001), api.ErrRange},
		"a phase far below 0":   {with(0, 0, 0, -16001), api.ErrRange},
		"the greatest X of all": {points(math.MaxInt, 0, 0, 0), api.ErrRange},
		"the least Y of all":    {points(0, math.MinInt, 0, 0), api.ErrRange},
		"the least height":      {points(0, 0, math.MinInt, 0), api.ErrRange},
		"the least phase":       {points(0, 0, 0, math.MinInt), api.ErrRange},
		"the last of 24":        {append(make([]api.ScreenPoint, 23), points(0, 0, 0, 16001)...), api.ErrRange},
	}
}

// wrongSights returns two tracks with the errors that each function of these returns.
func wrongSights() map[string]wrong[api.TwoTracks] {
	right := sight(800, -600, 6, 6)
	const most = api.MaxSight
	out := map[string]wrong[api.TwoTracks]{
		"the first track first":  {tracks(sight(1, 1, 2, 1), sight(1001, 1, 1, 1)), api.ErrOrder},
		"the second track later": {tracks(sight(1001, 1, 1, 1), sight(1, 1, 2, 1)), api.ErrRange},
		"both":                   {tracks(sight(0, 0, 2, 1), sight(0, 0, 2, 1)), api.ErrOrder},
	}
	for what, x := range map[string]wrong[api.TrackSight]{
		"Up too great":            {sight(1001, 600, 10, 13), api.ErrRange},
		"Up too small":            {sight(-1001, 600, 10, 13), api.ErrRange},
		"East too great":          {sight(800, 1001, 10, 13), api.ErrRange},
		"East too small":          {sight(800, -1001, 10, 13), api.ErrRange},
		"Lo too great":            {sight(800, 600, most+1, most+1), api.ErrRange},
		"Lo too small":            {sight(800, 600, -most-1, 13), api.ErrRange},
		"Hi too great":            {sight(800, 600, 10, most+1), api.ErrRange},
		"Hi too small":            {sight(800, 600, -most, -most-1), api.ErrRange},
		"the least numbers":       {sight(800, 600, math.MinInt, math.MinInt), api.ErrRange},
		"the greatest numbers":    {sight(800, 600, math.MaxInt, math.MaxInt), api.ErrRange},
		"the greatest Up":         {sight(math.MaxInt, math.MinInt, 0, 0), api.ErrRange},
		"Lo above Hi":             {sight(800, 600, 11, 10), api.ErrOrder},
		"Lo far above Hi":         {sight(800, 600, most, -most), api.ErrOrder},
		"Up wrong, Lo above Hi":   {sight(1001, 600, 11, 10), api.ErrRange},
		"no sight and Lo too low": {sight(0, 0, -most-1, -most-2), api.ErrRange},
	} {
		out["first: "+what] = wrong[api.TwoTracks]{tracks(x.x, right), x.e}
		out["second: "+what] = wrong[api.TwoTracks]{tracks(right, x.x), x.e}
	}
	return out
}

// wrongMoved returns questions for movements with a number out of range.
func wrongMoved() []api.SeriesMoved {
	var out []api.SeriesMoved
	for _, x := range []struct {
		number      func(*api.SeriesMoved) *int
		least, most int
	}{
		{func(x *api.SeriesMoved) *int { return &x.First }, -100000000, 100000000},
		{func(x *api.SeriesMoved) *int { return &x.FirstMargin }, 0, 2048},
		{func(x *api.SeriesMoved) *int { return &x.Second }, -100000000, 100000000},
		{func(x *api.SeriesMoved) *int { return &x.SecondMargin }, 0, 2048},
		{func(x *api.SeriesMoved) *int { return &x.Wave }, 1, 10000},
	} {
		for _, n := range []int{x.least - 1, x.most + 1, math.MinInt, math.MaxInt} {
			moved := exampleMoved()
			*x.number(&moved) = n
			out = append(out, moved)
		}
	}
	return append(out, api.SeriesMoved{})
}

// numbers yields the same numbers in each run, below a bound.
type numbers struct{ state uint64 }

func (r *numbers) below(n int) int {
	r.state = r.state*6364136223846793005 + 1442695040888963407
	return int(r.state>>33) % n
}

// within returns a number from -most to most.
func (r *numbers) within(most int) int { return r.below(2*most+1) - most }

// series returns n dates within a span, with numbers up to the others, in size.
func (r *numbers) series(n, span, base, phase, margin int) api.SeriesPoint {
	days := map[int]bool{0: true}
	for len(days) < n {
		days[1+r.below(span)] = true
	}
	s, first := dates(), r.below(api.MaxDay-span+1)
	for day := range span + 1 {
		if days[day] {
			s.Epochs = append(s.Epochs, api.SeriesEpoch{Day: first + day, Base: r.within(base), Phase: r.within(phase), Margin: r.below(margin + 1)})
		}
	}
	return s
}

// anySeries returns series of all sizes: of few dates and small numbers, the fits of which are small, too, of dates that
// do not determine all parameters, and of the greatest numbers.
func (r *numbers) anySeries(count int) []api.SeriesPoint {
	var out []api.SeriesPoint
	for i := range count {
		n := 1 + r.below(20)
		switch i % 5 {
		case 0:
			out = append(out, r.series(1+i/5%6, 6, 2, 9, 3))
		case 1:
			out = append(out, r.series(1+i/5%5, 40, 30, 100, 20))
		case 2:
			out = append(out, r.series(n, 400, 100, api.MaxMoved, api.MaxMargin))
		case 3:
			s, by := r.series(n, 40, 0, 50, 9), r.within(2)
			for k := range s.Epochs {
				s.Epochs[k].Base = by*(s.Epochs[k].Day-s.Epochs[0].Day) + i%4*5
			}
			out = append(out, s)
		default:
			out = append(out, r.series(3+i/5%4, 20, 5, 16000, 2048))
		}
	}
	for _, s := range rightSeries() {
		out = append(out, s)
	}
	return out
}

// screen returns n points with places, heights and phases up to such numbers, in size.
func (r *numbers) screen(n, away, phase int) []api.ScreenPoint {
	var l []api.ScreenPoint
	for range n {
		l = append(l, api.ScreenPoint{X: r.within(away), Y: r.within(away), Height: r.within(away), Phase: r.within(phase)})
	}
	return l
}

func (r *numbers) anyScreens(count int) [][]api.ScreenPoint {
	out := [][]api.ScreenPoint{exampleScreen()}
	for i := range count {
		switch i % 3 {
		case 0:
			out = append(out, r.screen(1+i/3%6, 2, 9))
		case 1:
			out = append(out, r.screen(1+r.below(24), 9, 99))
		default:
			out = append(out, r.screen(1+r.below(24), 200, 16000))
		}
	}
	return out
}

func (r *numbers) sight(away, most int) api.TrackSight {
	a, b := r.within(most), r.within(most)
	return sight(r.within(away), r.within(away), min(a, b), max(a, b))
}

func (r *numbers) tracks(away, most int) api.TwoTracks {
	return tracks(r.sight(away, most), r.sight(away, most))
}

// whole and part are fractions.
func whole(n int) *big.Rat { return big.NewRat(int64(n), 1) }

func part(n, d int) *big.Rat { return big.NewRat(int64(n), int64(d)) }

func ratOf(f api.Frac) *big.Rat { return part(f.Num, f.Den) }

func plus(a ...*big.Rat) *big.Rat {
	sum := new(big.Rat)
	for _, x := range a {
		sum.Add(sum, x)
	}
	return sum
}

func less(a, b *big.Rat) *big.Rat { return new(big.Rat).Sub(a, b) }

func times(a ...*big.Rat) *big.Rat {
	product := whole(1)
	for _, x := range a {
		product.Mul(product, x)
	}
	return product
}

// down rounds down. Euclid's division does so, as denominators are above 0.
func down(x *big.Rat) int { return int(new(big.Int).Div(x.Num(), x.Denom()).Int64()) }

// up rounds up.
func up(x *big.Rat) int { return -down(new(big.Rat).Neg(x)) }

// nearest rounds to the nearest whole number, a half upwards.
func nearest(x *big.Rat) int { return down(plus(x, part(1, 2))) }

func least(a, b *big.Rat) *big.Rat {
	if a.Cmp(b) < 0 {
		return a
	}
	return b
}

func greatest(a, b *big.Rat) *big.Rat {
	if a.Cmp(b) < 0 {
		return b
	}
	return a
}

// fractions returns what a function returns that has these fractions as its result.
func fractions(l ...*big.Rat) ([]api.Frac, api.Errno) {
	most := big.NewInt(api.MaxPart)
	var out []api.Frac
	for _, x := range l {
		if x.Num().CmpAbs(most) > 0 || x.Denom().Cmp(most) > 0 {
			return nil, api.ErrLarge
		}
		out = append(out, api.Frac{Num: int(x.Num().Int64()), Den: int(x.Denom().Int64())})
	}
	return out, api.OK
}

// A table is rows of whole numbers.
type table [][]int

// tableOf returns t, b and 1 of each date.
func tableOf(s api.SeriesPoint) table {
	var l table
	for _, date := range s.Epochs {
		l = append(l, []int{date.Day - s.Epochs[0].Day, date.Base, 1})
	}
	return l
}

func phasesOf(s api.SeriesPoint) []int {
	var l []int
	for _, date := range s.Epochs {
		l = append(l, date.Phase)
	}
	return l
}

// columns returns some columns of a table.
func (l table) columns(numbers ...int) table {
	var out table
	for _, row := range l {
		var some []int
		for _, n := range numbers {
			some = append(some, row[n])
		}
		out = append(out, some)
	}
	return out
}

func (l table) rats() [][]*big.Rat {
	var out [][]*big.Rat
	for _, row := range l {
		var rats []*big.Rat
		for _, n := range row {
			rats = append(rats, whole(n))
		}
		out = append(out, rats)
	}
	return out
}

// reduce brings rows to steps, as far as so many columns go, and returns how many steps there are.
func reduce(l [][]*big.Rat, columns int) int {
	rank := 0
	for column := range columns {
		at := slices.IndexFunc(l[rank:], func(row []*big.Rat) bool { return row[column].Sign() != 0 })
		if at < 0 {
			continue
		}
		l[rank], l[rank+at] = l[rank+at], l[rank]
		for i, row := range l {
			if i == rank {
				continue
			}
			by := new(big.Rat).Quo(row[column], l[rank][column])
			for k := range row {
				row[k] = less(row[k], times(by, l[rank][k]))
			}
		}
		rank++
	}
	return rank
}

func (l table) rank() int {
	if len(l) == 0 {
		return 0
	}
	return reduce(l.rats(), len(l[0]))
}

// fit returns the parameters with the least sum of squares, nothing if there are several.
func (l table) fit(phases []int) []*big.Rat {
	n := len(l[0])
	var equations [][]*big.Rat
	for i := range n {
		row := make([]*big.Rat, n+1)
		for j := range row {
			row[j] = new(big.Rat)
			for k, of := range l {
				factor := phases[k]
				if j < n {
					factor = of[j]
				}
				row[j] = plus(row[j], whole(of[i]*factor))
			}
		}
		equations = append(equations, row)
	}
	if reduce(equations, n) < n {
		return nil
	}
	var out []*big.Rat
	for i, row := range equations {
		out = append(out, new(big.Rat).Quo(row[n], row[i]))
	}
	return out
}

// at returns the model with these parameters.
func at(fit []*big.Rat, factors ...int) *big.Rat {
	sum := new(big.Rat)
	for i, factor := range factors {
		sum = plus(sum, times(fit[i], whole(factor)))
	}
	return sum
}

// missed returns the phases less the model.
func (l table) missed(fit []*big.Rat, phases []int) []*big.Rat {
	var out []*big.Rat
	for i, factors := range l {
		out = append(out, less(whole(phases[i]), at(fit, factors...)))
	}
	return out
}

// three and two return the parameters of a fit as the functions do.
func three(fit []*big.Rat) ([3]api.Frac, api.Errno) {
	if fit == nil {
		return [3]api.Frac{}, api.ErrRank
	}
	l, e := fractions(fit...)
	if e != api.OK {
		return [3]api.Frac{}, e
	}
	return [3]api.Frac(l), api.OK
}

func two(fit []*big.Rat) ([2]api.Frac, api.Errno) {
	if fit == nil {
		return [2]api.Frac{}, api.ErrRank
	}
	l, e := fractions(fit...)
	if e != api.OK {
		return [2]api.Frac{}, e
	}
	return [2]api.Frac(l), api.OK
}

// counter counts how often each error occurs, so that a test can tell that it saw all that it was made for.
type counter map[api.Errno]int

func (c counter) saw(t *testing.T, errs ...api.Errno) {
	t.Helper()
	for _, e := range errs {
		if c[e] == 0 {
			t.Errorf("the error %d did not occur", e)
		}
	}
}
