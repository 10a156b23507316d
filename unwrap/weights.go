package unwrap

import (
	"math"

	"swath/api"
)

// WeightsOf returns for all pairs of neighbours, across and down, the lesser one of both coherences.
func WeightsOf(c api.FloatMap) ([]int, []int, api.Errno) {
	if e := coherencesError(c); e != api.OK {
		return nil, nil, e
	}
	var across, down []int
	for i, pair := range pairs(c.Rows, c.Columns) {
		weight := int(min(c.Data[pair[0]], c.Data[pair[1]]))
		if i < pairsAcross(c.Rows, c.Columns) {
			across = append(across, weight)
		} else {
			down = append(down, weight)
		}
	}
	return across, down, api.OK
}

func coherencesError(c api.FloatMap) api.Errno {
	if e := firstError(gridError(c.Rows, c.Columns, len(c.Data)), largeError(len(c.Data), api.MaxUnwrapSize)); e != api.OK {
		return e
	}
	for _, x := range c.Data {
		if e := coherenceError(float64(x)); e != api.OK {
			return e
		}
	}
	return api.OK
}

// coherenceError begins with what is no whole number: NaN, which equals nothing, and the infinities.
func coherenceError(x float64) api.Errno {
	if x != math.Trunc(x) || math.IsInf(x, 0) {
		return api.ErrWhole
	}
	if x < 0 || x > api.MaxNetWeight {
		return api.ErrRange
	}
	return api.OK
}
