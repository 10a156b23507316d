package echo

import "swath/api"

// EnergyAt returns the energy of a sample of a field.
func EnergyAt(f api.RadarField, line, sample int) (int, api.Errno) {
	if e := checkLine(f, line); e != api.OK {
		return 0, e
	}
	if sample < 0 || sample >= f.Samples {
		return 0, api.ErrRange
	}
	return energy(f.Data[line*f.Samples+sample]), api.OK
}

// Peak returns the first line and sample with the greatest energy, and this energy.
func Peak(f api.RadarField) ([2]int, int, api.Errno) {
	if _, e := CheckField(f); e != api.OK {
		return [2]int{}, 0, e
	}
	energies := energiesOf(f.Data)
	i := firstGreatest(energies)
	return [2]int{i / f.Samples, i % f.Samples}, energies[i], api.OK
}

// Response returns the response of a point along a line of a field.
func Response(f api.RadarField, line int) (api.EchoPoint, api.Errno) {
	if e := checkLine(f, line); e != api.OK {
		return api.EchoPoint{}, e
	}
	energies := energiesOf(f.Data[line*f.Samples : (line+1)*f.Samples])
	peak := firstGreatest(energies)
	greatest := energies[peak]
	if greatest == 0 {
		return api.EchoPoint{}, api.ErrNone
	}
	half := rangeAround(peak, len(energies), func(_, next int) bool { return 2*energies[next] >= greatest })
	lobe := rangeAround(peak, len(energies), func(last, next int) bool { return energies[next] < energies[last] })
	return api.EchoPoint{
		Peak: peak, Energy: greatest,
		Half: half, Lobe: lobe,
		Side: greatestOutside(energies, lobe),
	}, api.OK
}

func checkLine(f api.RadarField, line int) api.Errno {
	if _, e := CheckField(f); e != api.OK {
		return e
	}
	if line < 0 || line >= f.Lines {
		return api.ErrRange
	}
	return api.OK
}

// energy is reckoned with ints: the squares of a field's parts are beyond what a float has exactly.
func energy(z complex128) int {
	x, y := int(real(z)), int(imag(z))
	return x*x + y*y
}

func energiesOf(samples []complex128) []int {
	out := make([]int, len(samples))
	for i, z := range samples {
		out[i] = energy(z)
	}
	return out
}

func firstGreatest(energies []int) int {
	best := 0
	for i, n := range energies {
		if n > energies[best] {
			best = i
		}
	}
	return best
}

// rangeAround grows from a sample to both sides as long as the next sample, seen from the last one, belongs to it.
func rangeAround(from, samples int, belongs func(last, next int) bool) api.Range {
	r := api.Range{Lo: from, Hi: from}
	for r.Lo > 0 && belongs(r.Lo, r.Lo-1) {
		r.Lo--
	}
	for r.Hi < samples-1 && belongs(r.Hi, r.Hi+1) {
		r.Hi++
	}
	return r
}

func greatestOutside(energies []int, r api.Range) int {
	most := 0
	for i, n := range energies {
		if i < r.Lo || i > r.Hi {
			most = max(most, n)
		}
	}
	return most
}
