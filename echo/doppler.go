package echo

import "swath/api"

// PairSum returns the sum of each line, but the first one, times the conjugate of the line before.
func PairSum(im api.RadarImage) (complex128, api.Errno) {
	if _, e := CheckImage(im); e != api.OK {
		return 0, e
	}
	if im.Lines == 1 {
		return 0, api.ErrShape
	}
	pairs := (im.Lines - 1) * im.Samples
	return sumOver(pairs, func(i int) complex128 {
		return complex128(im.Data[i+im.Samples]) * conjugate(complex128(im.Data[i]))
	}), api.OK
}

// DopplerPhase returns the phase by which an image turns from line to line.
func DopplerPhase(im api.RadarImage) (int, api.Errno) {
	sum, e := PairSum(im)
	if e != api.OK {
		return 0, e
	}
	return PhaseOf(sum)
}

// Unfolded returns the number nearest to near that differs from phase by whole turns.
func Unfolded(phase, near int) (int, api.Errno) {
	if isBeyond(phase, api.MaxPhase) || isBeyond(near, api.MaxPhase) {
		return 0, api.ErrRange
	}
	return near + wrapped(phase-near), api.OK
}
