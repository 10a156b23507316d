package match

import "swath/api"

const fullRank = 3

// A shift is an affine shift that is asked at places.
type shift struct{ api.MatchAffine }

// Equations are the normal equations of points: the sums of products of 1, line and sample, and the sums of these with
// the offsets of lines and of samples.
type equations struct {
	left  [3][3]int
	right [2][3]int
}

// RankOf returns the rank of points.
func RankOf(l []api.MatchPoint) (int, api.Errno) {
	if e := pointsError(l); e != api.OK {
		return 0, e
	}
	return rankOf(l), api.OK
}

// Fit returns the affine shift of points.
func Fit(l []api.MatchPoint) (api.MatchAffine, api.Errno) {
	if e := pointsError(l); e != api.OK {
		return api.MatchAffine{}, e
	}
	if rankOf(l) != fullRank {
		return api.MatchAffine{}, api.ErrRank
	}
	return equationsOf(l).solved(), api.OK
}

// ShiftAt returns the shift at a place in sixteenths.
func ShiftAt(f api.MatchAffine, line, sample int) ([2]int, api.Errno) {
	if e := firstError(CheckAffine(f), placeError(line, sample)); e != api.OK {
		return [2]int{}, e
	}
	return shift{f}.at(line, sample), api.OK
}

// Worst returns the number of the point whose offset differs most from an affine shift.
func Worst(f api.MatchAffine, l []api.MatchPoint) (int, api.Errno) {
	if e := firstError(CheckAffine(f), pointsError(l)); e != api.OK {
		return 0, e
	}
	if len(l) == 0 {
		return 0, api.ErrShape
	}
	worst := 0
	for i, x := range l {
		if (shift{f}).missed(x) > (shift{f}).missed(l[worst]) {
			worst = i
		}
	}
	return worst, api.OK
}

// rankOf looks for a point beside the first one, and for one beside the line through both.
func rankOf(l []api.MatchPoint) int {
	if len(l) == 0 {
		return 0
	}
	rank, along := 1, [2]int{}
	for _, x := range l {
		way := [2]int{x.Line - l[0].Line, x.Sample - l[0].Sample}
		if rank == 1 && way != [2]int{} {
			rank, along = 2, way
		}
		if along[0]*way[1] != along[1]*way[0] {
			return fullRank
		}
	}
	return rank
}

func equationsOf(l []api.MatchPoint) equations {
	var q equations
	for _, x := range l {
		factors := [3]int{1, x.Line, x.Sample}
		for i, a := range factors {
			for j, b := range factors {
				q.left[i][j] += a * b
			}
			for k, by := range x.By {
				q.right[k][i] += a * by
			}
		}
	}
	return q
}

// solved returns the solution by Cramer's rule. The determinant of points of the rank 3 is above 0.
func (q equations) solved() api.MatchAffine {
	den := determinant(q.left)
	line, sample := q.numerators(0), q.numerators(1)
	common := den
	for i := range line {
		common = divisorOf(divisorOf(common, line[i]), sample[i])
	}
	for i := range line {
		line[i] /= common
		sample[i] /= common
	}
	return api.MatchAffine{Den: den / common, Line: line, Sample: sample}
}

// numerators returns the determinants with the right side in the place of each column.
func (q equations) numerators(side int) [3]int {
	var out [3]int
	for column := range out {
		m := q.left
		for row := range m {
			m[row][column] = q.right[side][row]
		}
		out[column] = determinant(m)
	}
	return out
}

func determinant(m [3][3]int) int {
	sum := 0
	for i := range m {
		j, k := (i+1)%3, (i+2)%3
		sum += m[0][i] * (m[1][j]*m[2][k] - m[1][k]*m[2][j])
	}
	return sum
}

// at returns the shift at a place in sixteenths.
func (f shift) at(line, sample int) [2]int {
	var out [2]int
	for i, n := range f.numerators(line, sample) {
		out[i] = nearestTo(api.MatchParts*n, f.Den)
	}
	return out
}

// numerators returns the shift at a place, times Den.
func (f shift) numerators(line, sample int) [2]int {
	return [2]int{
		f.Line[0] + f.Line[1]*line + f.Line[2]*sample,
		f.Sample[0] + f.Sample[1]*line + f.Sample[2]*sample,
	}
}

// missed returns by how much the offset of a point differs from the shift, in lines or in samples, times Den.
func (f shift) missed(x api.MatchPoint) int {
	n := f.numerators(x.Line, x.Sample)
	return max(sizeOf(x.By[0]*f.Den-n[0]), sizeOf(x.By[1]*f.Den-n[1]))
}
