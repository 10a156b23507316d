package series

import "swath/api"

const (
	mostSlope    = 100     // velocities and heights of SquaresOf, in size
	mostConstant = 1000000 // its constants, in size
	finer        = 1000    // parts of a velocity in VelocityRange
)

// NormalOf returns the normal equations of a series, row by row, and their right side.
func NormalOf(s api.SeriesPoint) ([9]int, [3]int, api.Errno) {
	l, e := rowsOf(s)
	if e != api.OK {
		return [9]int{}, [3]int{}, e
	}
	left, right := l.normal()
	var flat [9]int
	for i := range flat {
		flat[i] = left[i/parameters][i%parameters]
	}
	return flat, right, api.OK
}

// RankOf returns the rank of a series, and the parameters that are not determined.
func RankOf(s api.SeriesPoint) (int, []int, api.Errno) {
	l, e := rowsOf(s)
	if e != api.OK {
		return 0, nil, e
	}
	left, _ := l.normal()
	return left.rank(), left.open(), api.OK
}

// Solve returns velocity, height and constant of a series.
func Solve(s api.SeriesPoint) ([3]api.Frac, api.Errno) {
	_, f, e := solve(s)
	if e != api.OK {
		return [3]api.Frac{}, e
	}
	return f.fractions()
}

// SolveOnly returns velocity or height, and the constant, with nothing else in the model.
func SolveOnly(s api.SeriesPoint, parameter int) ([2]api.Frac, api.Errno) {
	l, e := rowsOf(s)
	if e != api.OK {
		return [2]api.Frac{}, e
	}
	if parameter != api.SeriesVelocity && parameter != api.SeriesHeight {
		return [2]api.Frac{}, api.ErrKind
	}
	return slopeAndConstant(l, parameter)
}

// Residuals returns the phases less the model of the fit, date by date.
func Residuals(s api.SeriesPoint) ([]api.Frac, api.Errno) {
	l, f, e := solve(s)
	if e != api.OK {
		return nil, e
	}
	var missed []int
	for _, r := range l {
		missed = append(missed, f.missed(r))
	}
	return small(f.den, missed...)
}

// Predicted returns the model of the fit at any day and base.
func Predicted(s api.SeriesPoint, day, base int) (api.Frac, api.Errno) {
	if e := CheckSeries(s); e != api.OK {
		return api.Frac{}, e
	}
	first := s.Epochs[0].Day
	if e := firstError(rangeError(day, first, first+api.MaxSpan), baseError(base)); e != api.OK {
		return api.Frac{}, e
	}
	_, f, e := solve(s)
	if e != api.OK {
		return api.Frac{}, e
	}
	return smallOne(f.den, f.at([parameters]int{day - first, base, 1}))
}

// SquaresOf returns the sum of the squares by which whole parameters miss the phases.
func SquaresOf(s api.SeriesPoint, x [3]int) (int, api.Errno) {
	l, e := rowsOf(s)
	if e != api.OK {
		return 0, e
	}
	if e := firstError(sizeError(x[0], mostSlope), sizeError(x[1], mostSlope), sizeError(x[2], mostConstant)); e != api.OK {
		return 0, e
	}
	sum := 0
	for _, r := range l {
		missed := fit{1, x}.missed(r)
		sum += missed * missed
	}
	return sum, api.OK
}

// VelocityRange returns the enclosure of the velocity in thousandths. The velocity is a sum of phases, each with a weight
// of its own, which the cofactors tell.
func VelocityRange(s api.SeriesPoint) (api.Range, api.Errno) {
	l, f, e := solve(s)
	if e != api.OK {
		return api.Range{}, e
	}
	left, _ := l.normal()
	cofactors := left.cofactors()
	var sum api.Range
	for i, date := range s.Epochs {
		weight := dot(cofactors[api.SeriesVelocity], l[i].factors())
		sum = added(sum, scaled(around(date.Phase, date.Margin), finer*weight))
	}
	return divided(sum, f.den), api.OK
}

// solve returns the rows and the fit of a series.
func solve(s api.SeriesPoint) (rows, fit, api.Errno) {
	l, e := rowsOf(s)
	if e != api.OK {
		return nil, fit{}, e
	}
	f, e := l.solved()
	return l, f, e
}

// slopeAndConstant returns the fit of one parameter and the constant.
func slopeAndConstant(l rows, parameter int) ([2]api.Frac, api.Errno) {
	f, e := l.line(parameter)
	if e != api.OK {
		return [2]api.Frac{}, e
	}
	return smallPair(f.den, f.numerators[parameter], f.numerators[constant])
}
