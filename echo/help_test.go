package echo_test

import (
	"math"
	"reflect"
	"slices"
	"testing"

	"swath/api"
)

// The samples that are not whole, and those that are whole but greater than any limit.
var (
	inf         = math.Inf(1)
	notWhole    = []complex128{0.5, 0.5i, complex(math.NaN(), 0), complex(0, math.NaN()), complex(inf, 0), complex(0, -inf), complex(1e30, 0.25)}
	minusZero   = math.Copysign(0, -1)
	minusZero64 = complex(float32(minusZero), float32(minusZero))
)

// row returns an image of one line.
func row(samples ...complex64) api.RadarImage { return image(1, samples...) }

// image returns an image of so many lines.
func image(lines int, samples ...complex64) api.RadarImage {
	return api.RadarImage{Lines: lines, Samples: len(samples) / lines, Data: samples}
}

// field returns a field of so many lines.
func field(lines int, samples ...complex128) api.RadarField {
	return api.RadarField{Lines: lines, Samples: len(samples) / lines, Data: samples}
}

// want compares a result and an error with those that are right.
func want(t *testing.T, what string, got any, e api.Errno, right any, rightError api.Errno) {
	t.Helper()
	if e != rightError {
		t.Errorf("%s: error %d, want %d", what, e, rightError)
	}
	if !reflect.DeepEqual(got, right) {
		t.Errorf("%s: %v, want %v", what, got, right)
	}
}

// numbers yields the same numbers in each run, below a bound.
type numbers struct{ state uint64 }

func (r *numbers) below(n int) int {
	r.state = r.state*6364136223846793005 + 1442695040888963407
	return int(r.state>>33) % n
}

// within returns a number from -most to most.
func (r *numbers) within(most int) int { return r.below(2*most+1) - most }

func (r *numbers) image(lines, samples, most int) api.RadarImage {
	im := api.RadarImage{Lines: lines, Samples: samples}
	for range lines * samples {
		im.Data = append(im.Data, complex(float32(r.within(most)), float32(r.within(most))))
	}
	return im
}

func (r *numbers) field(lines, samples, most int) api.RadarField {
	f := api.RadarField{Lines: lines, Samples: samples}
	for range lines * samples {
		f.Data = append(f.Data, complex(float64(r.within(most)), float64(r.within(most))))
	}
	return f
}

// code returns a code that is not 0.
func (r *numbers) code(n int) []complex64 {
	code := r.image(1, n, api.MaxCode).Data
	code[n-1] = -1i
	return code
}

func (r *numbers) list(n int) []int {
	var a []int
	for range n {
		a = append(a, r.below(api.EchoPrime))
	}
	return a
}

// wrongImages returns images with the errors that each function of an image returns.
func wrongImages() map[string]struct {
	im api.RadarImage
	e  api.Errno
} {
	return map[string]struct {
		im api.RadarImage
		e  api.Errno
	}{
		"no image":         {api.RadarImage{}, api.ErrRange},
		"no lines":         {api.RadarImage{Lines: 0, Samples: 1}, api.ErrRange},
		"too many samples": {api.RadarImage{Lines: 1, Samples: 65, Data: make([]complex64, 65)}, api.ErrRange},
		"no data":          {api.RadarImage{Lines: 2, Samples: 2}, api.ErrShape},
		"half a sample":    {image(2, 1, 0.5), api.ErrWhole},
		"a great sample":   {image(2, 1, 2048i), api.ErrRange},
	}
}

// wrongFields returns fields with the errors that each function of a field returns.
func wrongFields() map[string]struct {
	f api.RadarField
	e api.Errno
} {
	return map[string]struct {
		f api.RadarField
		e api.Errno
	}{
		"no field":       {api.RadarField{}, api.ErrRange},
		"too many lines": {api.RadarField{Lines: 65, Samples: 1, Data: make([]complex128, 65)}, api.ErrRange},
		"no data":        {api.RadarField{Lines: 1, Samples: 2}, api.ErrShape},
		"half a sample":  {field(1, 1, 0.5), api.ErrWhole},
		"a great sample": {field(1, 1, 1000000001i), api.ErrRange},
	}
}

// wrongCodes returns codes with the errors that each function of a code returns.
func wrongCodes() map[string]struct {
	code []complex64
	e    api.Errno
} {
	return map[string]struct {
		code []complex64
		e    api.Errno
	}{
		"no code":          {nil, api.ErrShape},
		"a long code":      {make([]complex64, 33), api.ErrLarge},
		"half a sample":    {[]complex64{0.5}, api.ErrWhole},
		"a great sample":   {[]complex64{4}, api.ErrRange},
		"nothing but zero": {[]complex64{0, minusZero64}, api.ErrZero},
	}
}

// hasMinusZero tells -0 in the parts of samples.
func hasMinusZero[C complex64 | complex128](samples []C) bool {
	return slices.ContainsFunc(samples, func(c C) bool {
		z := complex128(c)
		return real(z) == 0 && math.Signbit(real(z)) || imag(z) == 0 && math.Signbit(imag(z))
	})
}
