package match

import "swath/api"

const mostPlace = 2048 // places of samples, in sixteenths, in size

// Weights returns the weights of a kernel for a part, and their sum.
func Weights(kernel, part int) ([]float32, float32, api.Errno) {
	if e := firstError(kernelError(kernel), rangeError(part, 0, api.MatchParts-1)); e != api.OK {
		return nil, 0, e
	}
	weights, sum := weightsOf(kernel, part)
	return weights, sum, api.OK
}

// SampleAt returns the sample of an image at a place that is told in sixteenths.
func SampleAt(im api.RadarImage, kernel int, at [2]int) (complex64, api.Errno) {
	if e := firstError(imageError(im), kernelError(kernel), sixteenthsError(at)); e != api.OK {
		return 0, e
	}
	return scene{im}.between(kernel, at), api.OK
}

// Resampled returns an image at the places of an affine shift.
func Resampled(im api.RadarImage, r api.MatchResample) (api.RadarImage, api.Errno) {
	if e := firstError(imageError(im), kernelError(r.Kernel), sizeError(r.Lines, r.Samples), CheckAffine(r.By)); e != api.OK {
		return api.RadarImage{}, e
	}
	return scene{im}.resampled(r), api.OK
}

// Register returns the second image of a pair as the first one has its places, the shift, and the points that it is of.
func Register(p api.MatchPair, t api.MatchTask, kernel int) (api.RadarImage, api.MatchAffine, []api.MatchPoint, api.Errno) {
	points, e := Offsets(p, t)
	if e = firstError(e, kernelError(kernel)); e != api.OK {
		return api.RadarImage{}, api.MatchAffine{}, nil, e
	}
	var kept []api.MatchPoint
	for _, i := range keptOf(points, t.Tolerance) {
		kept = append(kept, points[i])
	}
	f, e := Fit(kept)
	if e != api.OK {
		return api.RadarImage{}, api.MatchAffine{}, nil, e
	}
	r := api.MatchResample{Kernel: kernel, Lines: p.First.Lines, Samples: p.First.Samples, By: f}
	return scene{p.Second}.resampled(r), f, kept, api.OK
}

func sixteenthsError(at [2]int) api.Errno {
	return firstError(rangeError(at[0], -mostPlace, mostPlace), rangeError(at[1], -mostPlace, mostPlace))
}

func sizeError(lines, samples int) api.Errno {
	return firstError(rangeError(lines, 1, api.MaxLines), rangeError(samples, 1, api.MaxSamples))
}

func weightsOf(kernel, part int) ([]float32, float32) {
	p := float32(part)
	switch kernel {
	case api.KernelLinear:
		return []float32{16 - p, p}, 16
	case api.KernelCubic:
		return []float32{
			32*p*p - p*p*p - 256*p,
			3*p*p*p - 80*p*p + 8192,
			64*p*p - 3*p*p*p + 256*p,
			p*p*p - 16*p*p,
		}, 8192
	}
	if part < api.MatchParts/2 {
		return []float32{1, 0}, 1
	}
	return []float32{0, 1}, 1
}

// around returns the first line (or sample) of which a place has something, the weights from this one on, and their sum.
func around(kernel, place int) (int, []float32, float32) {
	hand := floorOf(place, api.MatchParts)
	weights, sum := weightsOf(kernel, place-hand*api.MatchParts)
	return hand + 1 - len(weights)/2, weights, sum
}

// between multiplies in float64, as products of weights have more digits than a float32.
func (s scene) between(kernel int, at [2]int) complex64 {
	line, ofLines, sum := around(kernel, at[0])
	sample, ofSamples, _ := around(kernel, at[1])
	total := complex128(0)
	for i, v := range ofLines {
		for j, w := range ofSamples {
			total += complex(float64(v)*float64(w), 0) * s.at(line+i, sample+j)
		}
	}
	whole := int(sum) * int(sum)
	return complex(partOf(real(total), whole), partOf(imag(total), whole))
}

func partOf(sum float64, whole int) float32 {
	n := nearestTo(int(sum), whole)
	return float32(min(max(n, -api.MaxSample), api.MaxSample))
}

func (s scene) resampled(r api.MatchResample) api.RadarImage {
	out := api.RadarImage{Lines: r.Lines, Samples: r.Samples}
	for i := range r.Lines * r.Samples {
		line, sample := i/r.Samples, i%r.Samples
		by := shift{r.By}.at(line, sample)
		at := [2]int{api.MatchParts*line + by[0], api.MatchParts*sample + by[1]}
		out.Data = append(out.Data, s.between(r.Kernel, at))
	}
	return out
}
