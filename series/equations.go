package series

import "swath/api"

const (
	parameters  = 3                  // the last one is the constant
	constant    = api.SeriesConstant // of screens, too
	phaseColumn = parameters         // behind the factors of a row
)

// A row is what the parameters are multiplied with at a date or a point, and the phase there.
type row [parameters + 1]int

// rows are all dates of a series, or all points of a screen.
type rows []row

// A matrix is the left side of normal equations, row by row.
type matrix [parameters][parameters]int

// A fit is parameters with one denominator above 0.
type fit struct {
	den        int
	numerators [parameters]int
}

// rowsOf returns the rows of a series.
func rowsOf(s api.SeriesPoint) (rows, api.Errno) {
	if e := CheckSeries(s); e != api.OK {
		return nil, e
	}
	var l rows
	for _, date := range s.Epochs {
		l = append(l, row{date.Day - s.Epochs[0].Day, date.Base, 1, date.Phase})
	}
	return l, api.OK
}

// factors returns what the parameters are multiplied with.
func (r row) factors() [parameters]int {
	return [parameters]int{r[0], r[1], r[2]}
}

// sum adds the products of columns over all rows; that of no columns is the number of rows.
func (l rows) sum(columns ...int) int {
	sum := 0
	for _, r := range l {
		product := 1
		for _, column := range columns {
			product *= r[column]
		}
		sum += product
	}
	return sum
}

// normal returns the normal equations: the left side, and the right one.
func (l rows) normal() (matrix, [parameters]int) {
	var left matrix
	var right [parameters]int
	for i := range parameters {
		for j := range parameters {
			left[i][j] = l.sum(i, j)
		}
		right[i] = l.sum(i, phaseColumn)
	}
	return left, right
}

// solved returns the fit of all parameters: ErrRank if there are several. Normal equations are the same across their
// diagonal, so that their cofactors, divided by the determinant, solve them; a determinant that is not 0 is above 0. With
// the limits of api no sum here, or with a fit, reaches 2^62.
func (l rows) solved() (fit, api.Errno) {
	left, right := l.normal()
	cofactors := left.cofactors()
	f := fit{den: dot(left[0], cofactors[0])}
	if f.den == 0 {
		return fit{}, api.ErrRank
	}
	for i := range parameters {
		f.numerators[i] = dot(cofactors[i], right)
	}
	return f, api.OK
}

// line returns the fit of one parameter and the constant, the third parameter being 0: ErrRank if there are several.
func (l rows) line(parameter int) (fit, api.Errno) {
	count, sum, squares := l.sum(), l.sum(parameter), l.sum(parameter, parameter)
	phases, products := l.sum(phaseColumn), l.sum(parameter, phaseColumn)
	f := fit{den: count*squares - sum*sum}
	if f.den == 0 {
		return fit{}, api.ErrRank
	}
	f.numerators[parameter] = count*products - sum*phases
	f.numerators[constant] = squares*phases - sum*products
	return f, api.OK
}

// fractions returns the parameters: ErrLarge if one of them is not small.
func (f fit) fractions() ([parameters]api.Frac, api.Errno) {
	var out [parameters]api.Frac
	l, e := small(f.den, f.numerators[:]...)
	copy(out[:], l)
	return out, e
}

// at returns the model with given factors, times the denominator.
func (f fit) at(factors [parameters]int) int {
	return dot(f.numerators, factors)
}

// missed returns the phase less the model, times the denominator.
func (f fit) missed(r row) int {
	return r[phaseColumn]*f.den - f.at(r.factors())
}

// cofactors have their sign from going on in a circle from row to row, and from column to column.
func (m matrix) cofactors() matrix {
	cofactor := func(i, j int) int {
		below, further := m[(i+1)%parameters], m[(i+2)%parameters]
		right, rest := (j+1)%parameters, (j+2)%parameters
		return below[right]*further[rest] - below[rest]*further[right]
	}
	var out matrix
	for i := range parameters {
		for j := range parameters {
			out[i][j] = cofactor(i, j)
		}
	}
	return out
}

// rank looks only at parts around the diagonal: of normal equations, the greatest of these that is not 0 tells the rank.
func (m matrix) rank() int {
	cofactors := m.cofactors()
	if dot(m[0], cofactors[0]) != 0 {
		return parameters
	}
	rank := 0
	for i := range parameters {
		if m[i][i] != 0 {
			rank = max(rank, 1)
		}
		if cofactors[i][i] != 0 {
			rank = max(rank, 2)
		}
	}
	return rank
}

// without returns the normal equations of a model in which a parameter has the factor 0 everywhere.
func (m matrix) without(parameter int) matrix {
	for i := range parameters {
		m[i][parameter], m[parameter][i] = 0, 0
	}
	return m
}

// open returns the parameters that are not determined: without them the rank is the same, as the others make up for them.
func (m matrix) open() []int {
	var open []int
	for parameter := range parameters {
		if m.without(parameter).rank() == m.rank() {
			open = append(open, parameter)
		}
	}
	return open
}

// dot adds the products of numbers at the same place.
func dot(a, b [parameters]int) int {
	sum := 0
	for i := range parameters {
		sum += a[i] * b[i]
	}
	return sum
}
