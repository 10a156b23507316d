package fringe

import (
	"math"
	"math/bits"

	"swath/api"
)

const (
	mostCoherence = 1000
	mostSquare    = mostCoherence * mostCoherence
)

// Coherence returns the coherence of two images in windows, in thousandths.
func Coherence(a, b api.RadarImage, half int) (api.FloatMap, api.Errno) {
	if e := firstError(imagesError(a, b), windowError(half)); e != api.OK {
		return api.FloatMap{}, e
	}
	common, first, second := products(a, b), energies(a), energies(b)
	out := made(a.Lines, a.Samples, func(at [2]int) float32 {
		energy := total(common.around(at, half)).energy()
		return float32(coherenceOf(energy, total(first.around(at, half)), total(second.around(at, half))))
	})
	return api.FloatMap{Rows: out.rows, Columns: out.columns, Data: out.items}, api.OK
}

// SquareOf returns the square of a coherence without its bias, in millionths.
func SquareOf(coherence, looks int) (int, api.Errno) {
	if e := firstError(rangeError(coherence, 0, mostCoherence), rangeError(looks, 2, api.MaxLooks)); e != api.OK {
		return 0, e
	}
	return max(floorOf(looks*coherence*coherence-mostSquare, looks-1), 0), api.OK
}

// Masked returns a map without the pixels whose number is less than least.
func Masked(m api.PhaseMap, q api.FloatMap, least int) (api.PhaseMap, api.Errno) {
	numbers := floats(q)
	if e := firstError(mapError(m), floatMapError(q), clashError(sizeOf(m), numbers.size()), rangeError(least, -api.MaxHeight, api.MaxHeight)); e != api.OK {
		return api.PhaseMap{}, e
	}
	return mapOf(combined(phases(m), numbers, func(p phase, x float32) phase {
		if int(x) < least {
			return void
		}
		return p
	})), api.OK
}

// floats shares the memory of the map, which is not written.
func floats(h api.FloatMap) grid[float32] {
	return grid[float32]{h.Rows, h.Columns, h.Data}
}

func energies(im api.RadarImage) grid[int] {
	return mapped(samples(im), func(z complex64) int { return sum(z).energy() })
}

// coherenceOf needs 128 bits for the energy in millionths. An energy of sums is never greater than the product of both
// energies, so that the quotient is at most a million, and the root of a float is exact.
func coherenceOf(common, first, second int) int {
	whole := first * second
	if whole == 0 {
		return 0
	}
	high, low := bits.Mul64(uint64(common), mostSquare)
	square, _ := bits.Div64(high, low, uint64(whole))
	return int(math.Sqrt(float64(square)))
}
