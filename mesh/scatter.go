package mesh

import (
	"math/bits"

	"swath/api"
)

// Dispersion returns the variance of amplitudes, divided by the square of their mean.
func Dispersion(amplitudes []int) ([2]int, api.Errno) {
	if e := amplitudesError(amplitudes); e != api.OK {
		return [2]int{}, e
	}
	sum, squares := sumsOf(amplitudes)
	rest, whole := len(amplitudes)*squares-sum*sum, sum*sum
	common := divisorOf(whole, rest)
	return [2]int{rest / common, whole / common}, api.OK
}

// Chosen returns the scatterers whose dispersion is at most a fraction.
func Chosen(l []api.MeshScatterer, most api.Frac) ([]int, api.Errno) {
	if e := firstError(scatterersError(l), fracError(most)); e != api.OK {
		return nil, e
	}
	var chosen []int
	for i, s := range l {
		if dispersion, _ := Dispersion(s.Amplitudes); isAtMost(dispersion, most) {
			chosen = append(chosen, i)
		}
	}
	return chosen, api.OK
}

func amplitudesError(l []int) api.Errno {
	if len(l) < 2 {
		return api.ErrShape
	}
	if e := firstError(largeError(len(l), api.MaxScenes), rangesError(l, 0, api.MaxMeshAmplitude)); e != api.OK {
		return e
	}
	if sum, _ := sumsOf(l); sum == 0 {
		return api.ErrZero
	}
	return api.OK
}

func scatterersError(l []api.MeshScatterer) api.Errno {
	if len(l) > api.MaxMeshPoints {
		return api.ErrLarge
	}
	var earlier []api.MeshPoint
	for _, s := range l {
		if e := firstError(placeError(s.Place), existsError(s.Place, earlier), amplitudesError(s.Amplitudes)); e != api.OK {
			return e
		}
		earlier = append(earlier, s.Place)
	}
	return api.OK
}

func fracError(f api.Frac) api.Errno {
	if f.Den <= 0 || sizeOf(divisorOf(f.Num, f.Den)) != 1 {
		return api.ErrForm
	}
	return firstError(rangeError(f.Num, 0, api.MaxPart), rangeError(f.Den, 1, api.MaxPart))
}

// sumsOf returns the sum of numbers, and the sum of their squares.
func sumsOf(l []int) (sum, squares int) {
	for _, n := range l {
		sum += n
		squares += n * n
	}
	return sum, squares
}

// divisorOf returns the greatest common divisor, with any sign.
func divisorOf(a, b int) int {
	for b != 0 {
		a, b = b, a%b
	}
	return a
}

// isAtMost compares fractions that are not below 0. The products may have more than 64 bits.
func isAtMost(f [2]int, most api.Frac) bool {
	high, low := bits.Mul64(uint64(f[0]), uint64(most.Den))
	mostHigh, mostLow := bits.Mul64(uint64(f[1]), uint64(most.Num))
	return high < mostHigh || high == mostHigh && low <= mostLow
}
