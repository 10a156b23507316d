package echo

import (
	"math"

	"swath/api"
)

// Added returns the image with the sums of the samples of two images.
func Added(a, b api.RadarImage) (api.RadarImage, api.Errno) {
	if _, e := CheckImage(a); e != api.OK {
		return api.RadarImage{}, e
	}
	if _, e := CheckImage(b); e != api.OK {
		return api.RadarImage{}, e
	}
	if a.Lines != b.Lines || a.Samples != b.Samples {
		return api.RadarImage{}, api.ErrClash
	}
	out := newImage(a.Lines, a.Samples)
	for i := range out.Data {
		out.Data[i] = plain(a.Data[i] + b.Data[i])
		if isLarge(complex128(out.Data[i]), api.MaxSample) {
			return api.RadarImage{}, api.ErrLarge
		}
	}
	return out, api.OK
}

// Shifted returns an image moved by lines and samples.
func Shifted(im api.RadarImage, by [2]int) (api.RadarImage, api.Errno) {
	if _, e := CheckImage(im); e != api.OK {
		return api.RadarImage{}, e
	}
	if isBeyond(by[0], api.MaxLines) || isBeyond(by[1], api.MaxSamples) {
		return api.RadarImage{}, api.ErrRange
	}
	out := newImage(im.Lines, im.Samples)
	for i, z := range im.Data {
		line, sample := i/im.Samples+by[0], i%im.Samples+by[1]
		if line >= 0 && line < im.Lines && sample >= 0 && sample < im.Samples {
			out.Data[line*im.Samples+sample] = plain(z)
		}
	}
	return out, api.OK
}

// Gaps returns the longest ranges of lines without echoes.
func Gaps(im api.RadarImage) ([]api.Range, api.Errno) {
	if _, e := CheckImage(im); e != api.OK {
		return nil, e
	}
	var gaps []api.Range
	for l := range im.Lines {
		if !allZero(im.Data[l*im.Samples : (l+1)*im.Samples]) {
			continue
		}
		if n := len(gaps); n > 0 && gaps[n-1].Hi == l-1 {
			gaps[n-1].Hi = l
		} else {
			gaps = append(gaps, api.Range{Lo: l, Hi: l})
		}
	}
	return gaps, api.OK
}

// Clipped returns how many samples have a part of the greatest size.
func Clipped(im api.RadarImage) (int, api.Errno) {
	if _, e := CheckImage(im); e != api.OK {
		return 0, e
	}
	count := 0
	for _, z := range im.Data {
		if isClipped(real(z)) || isClipped(imag(z)) {
			count++
		}
	}
	return count, api.OK
}

func isClipped(part float32) bool {
	return math.Abs(float64(part)) == api.MaxSample
}

func newImage(lines, samples int) api.RadarImage {
	return api.RadarImage{Lines: lines, Samples: samples, Data: make([]complex64, lines*samples)}
}

// plain is the sample without -0, which no result may have.
func plain(z complex64) complex64 {
	return complex(plainPart(real(z)), plainPart(imag(z)))
}

func plainPart(x float32) float32 {
	if x == 0 {
		return 0
	}
	return x
}
