// Package echo is chapter 1: images, codes, compression, phases, Doppler. See shared/doc/01-echo.md.
package echo

import (
	"math"

	"swath/api"
)

// CheckImage returns the number of the first wrong sample of an image, and its error.
func CheckImage(im api.RadarImage) (int, api.Errno) {
	if e := checkSize(im.Lines, im.Samples, len(im.Data)); e != api.OK {
		return 0, e
	}
	return checkSamples(im.Data, api.MaxSample)
}

// CheckField returns the number of the first wrong sample of a field, and its error.
func CheckField(f api.RadarField) (int, api.Errno) {
	if e := checkSize(f.Lines, f.Samples, len(f.Data)); e != api.OK {
		return 0, e
	}
	return checkSamples(f.Data, api.MaxField)
}

// CheckCode returns the number of the first wrong sample of a code, and its error.
func CheckCode(code []complex64) (int, api.Errno) {
	if len(code) == 0 {
		return 0, api.ErrShape
	}
	if len(code) > api.MaxCodes {
		return 0, api.ErrLarge
	}
	if n, e := checkSamples(code, api.MaxCode); e != api.OK {
		return n, e
	}
	if allZero(code) {
		return 0, api.ErrZero
	}
	return 0, api.OK
}

func checkSize(lines, samples, have int) api.Errno {
	if lines < 1 || lines > api.MaxLines || samples < 1 || samples > api.MaxSamples {
		return api.ErrRange
	}
	if have != lines*samples {
		return api.ErrShape
	}
	return api.OK
}

// checkSamples looks at samples of either kind one by one; most limits the size of their parts.
func checkSamples[C complex64 | complex128](samples []C, most float64) (int, api.Errno) {
	for i, z := range samples {
		if e := checkSample(complex128(z), most); e != api.OK {
			return i, e
		}
	}
	return 0, api.OK
}

func checkSample(z complex128, most float64) api.Errno {
	if !isWhole(real(z)) || !isWhole(imag(z)) {
		return api.ErrWhole
	}
	if isLarge(z, most) {
		return api.ErrRange
	}
	return api.OK
}

// isWhole is false for NaN, which equals nothing.
func isWhole(x float64) bool {
	return x == math.Trunc(x) && !math.IsInf(x, 0)
}

func isLarge(z complex128, most float64) bool {
	return math.Abs(real(z)) > most || math.Abs(imag(z)) > most
}

func allZero(samples []complex64) bool {
	for _, z := range samples {
		if z != 0 {
			return false
		}
	}
	return true
}

// isBeyond compares with both bounds, as the least int has no opposite.
func isBeyond(n, most int) bool {
	return n < -most || n > most
}
