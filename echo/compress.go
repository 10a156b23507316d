package echo

import "swath/api"

// Compress returns the field of an image whose lines are compressed by a code.
func Compress(im api.RadarImage, code []complex64) (api.RadarField, api.Errno) {
	if _, e := CheckImage(im); e != api.OK {
		return api.RadarField{}, e
	}
	if _, e := CheckCode(code); e != api.OK {
		return api.RadarField{}, e
	}
	if len(code) > im.Samples {
		return api.RadarField{}, api.ErrShape
	}
	out := newField(im.Lines, im.Samples-len(code)+1)
	for i := range out.Data {
		first := i/out.Samples*im.Samples + i%out.Samples
		out.Data[i] = sumOver(len(code), func(k int) complex128 {
			return complex128(im.Data[first+k]) * conjugate(complex128(code[k]))
		})
	}
	return out, api.OK
}

// Focus returns the field that is compressed by a code across its lines.
func Focus(f api.RadarField, code []complex64) (api.RadarField, api.Errno) {
	if _, e := CheckField(f); e != api.OK {
		return api.RadarField{}, e
	}
	if _, e := CheckCode(code); e != api.OK {
		return api.RadarField{}, e
	}
	if len(code) > f.Lines {
		return api.RadarField{}, api.ErrShape
	}
	out := newField(f.Lines-len(code)+1, f.Samples)
	for i := range out.Data {
		out.Data[i] = sumOver(len(code), func(k int) complex128 {
			return f.Data[i+k*f.Samples] * conjugate(complex128(code[k]))
		})
		if isLarge(out.Data[i], api.MaxField) {
			return api.RadarField{}, api.ErrLarge
		}
	}
	return out, api.OK
}

// sumOver adds up the samples that it is handed; as it begins with 0, it never comes to -0.
func sumOver(n int, sample func(k int) complex128) complex128 {
	sum := complex128(0)
	for k := range n {
		sum += sample(k)
	}
	return sum
}

func conjugate(z complex128) complex128 {
	return complex(real(z), -imag(z))
}

func newField(lines, samples int) api.RadarField {
	return api.RadarField{Lines: lines, Samples: samples, Data: make([]complex128, lines*samples)}
}
