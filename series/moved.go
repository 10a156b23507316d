package series

import "swath/api"

const (
	movedParts    = 2 * api.PhaseTurn // a movement of half a wave makes a turn, as the way goes there and back
	mostThreshold = 1000000000
)

// Moved returns the enclosure of the movement between two dates.
func Moved(x api.SeriesMoved) (api.Range, api.Errno) {
	if e := movedError(x); e != api.OK {
		return api.Range{}, e
	}
	return divided(movement(x), movedParts), api.OK
}

// Exceeds answers whether the movement between two dates is greater than a threshold, in one way or the other.
func Exceeds(x api.SeriesMoved, threshold int) (int, api.Errno) {
	if e := firstError(movedError(x), rangeError(threshold, 0, mostThreshold)); e != api.OK {
		return 0, e
	}
	moved, allowed := movement(x), around(0, threshold*movedParts)
	switch {
	case moved.Lo > allowed.Hi || moved.Hi < allowed.Lo:
		return api.AnswerYes, api.OK
	case moved.Lo >= allowed.Lo && moved.Hi <= allowed.Hi:
		return api.AnswerNo, api.OK
	}
	return api.AnswerMaybe, api.OK
}

func movedError(x api.SeriesMoved) api.Errno {
	return firstError(
		sizeError(x.First, api.MaxPhase),
		sizeError(x.Second, api.MaxPhase),
		marginError(x.FirstMargin),
		marginError(x.SecondMargin),
		rangeError(x.Wave, 1, api.MaxWave),
	)
}

// movement returns the movement, times movedParts.
func movement(x api.SeriesMoved) api.Range {
	return scaled(around(x.Second-x.First, x.FirstMargin+x.SecondMargin), -x.Wave)
}
