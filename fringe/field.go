package fringe

import (
	"iter"
	"math"
	"slices"

	"swath/api"
	"swath/echo"
)

// A sum is a complex number of a field.
type sum complex128

// Interfere returns the interferogram of two images.
func Interfere(a, b api.RadarImage) (api.RadarField, api.Errno) {
	if e := imagesError(a, b); e != api.OK {
		return api.RadarField{}, e
	}
	return fieldOf(products(a, b))
}

// Looked returns the sums over blocks of so many lines and samples.
func Looked(f api.RadarField, by [2]int) (api.RadarField, api.Errno) {
	if e := firstError(fieldError(f), rangeError(by[0], 1, f.Lines), rangeError(by[1], 1, f.Samples)); e != api.OK {
		return api.RadarField{}, e
	}
	from := sums(f)
	return fieldOf(made(f.Lines/by[0], f.Samples/by[1], func(at [2]int) sum {
		return total(from.block([2]int{at[0] * by[0], at[1] * by[1]}, by))
	}))
}

// Filtered returns the sums over windows.
func Filtered(f api.RadarField, half int) (api.RadarField, api.Errno) {
	if e := firstError(fieldError(f), windowError(half)); e != api.OK {
		return api.RadarField{}, e
	}
	from := sums(f)
	return fieldOf(made(f.Lines, f.Samples, func(at [2]int) sum { return total(from.around(at, half)) }))
}

// PhasesOf returns the phases of a field.
func PhasesOf(f api.RadarField) (api.PhaseMap, api.Errno) {
	if e := fieldError(f); e != api.OK {
		return api.PhaseMap{}, e
	}
	return mapOf(mapped(sums(f), sum.phase)), api.OK
}

// samples shares the memory of the image, which is not written.
func samples(im api.RadarImage) grid[complex64] {
	return grid[complex64]{im.Lines, im.Samples, im.Data}
}

func sums(f api.RadarField) grid[sum] {
	return mapped(grid[complex128]{f.Lines, f.Samples, f.Data}, func(z complex128) sum { return sum(z) })
}

// fieldOf returns the field with such sums, if none of them is too large.
func fieldOf(g grid[sum]) (api.RadarField, api.Errno) {
	if slices.ContainsFunc(g.items, sum.isLarge) {
		return api.RadarField{}, api.ErrLarge
	}
	return api.RadarField{Lines: g.rows, Samples: g.columns, Data: mapped(g, sum.plain).items}, api.OK
}

// products returns the interferogram of two images of one size.
func products(a, b api.RadarImage) grid[sum] {
	return combined(samples(a), samples(b), func(x, y complex64) sum { return sum(x) * sum(y).conjugate() })
}

// total adds up numbers of either kind.
func total[N int | sum](numbers iter.Seq[N]) N {
	var all N
	for n := range numbers {
		all += n
	}
	return all
}

func (z sum) isLarge() bool {
	return math.Abs(real(z)) > api.MaxField || math.Abs(imag(z)) > api.MaxField
}

func (z sum) conjugate() sum {
	return sum(complex(real(z), -imag(z)))
}

// energy squares ints, as the square of a sum has more digits than a float.
func (z sum) energy() int {
	x, y := int(real(z)), int(imag(z))
	return x*x + y*y
}

// phase is void for 0 alone: the parts of a field are whole and small enough.
func (z sum) phase() phase {
	p, e := echo.PhaseOf(complex128(z))
	if e != api.OK {
		return void
	}
	return phase(p)
}

// plain is the number without -0, which no result may have.
func (z sum) plain() complex128 {
	return complex(float64(int(real(z))), float64(int(imag(z))))
}
