package series

import "swath/api"

// floorOf returns n / d rounded down, for d above 0.
func floorOf(n, d int) int {
	q := n / d
	if n%d < 0 {
		q--
	}
	return q
}

// ceilOf returns n / d rounded up, for d above 0.
func ceilOf(n, d int) int {
	return -floorOf(-n, d)
}

// nearestTo returns n / d rounded to the nearest whole number, halves up, for d above 0.
func nearestTo(n, d int) int {
	return floorOf(2*n+d, 2*d)
}

// lowest returns n / d in lowest terms, for d above 0.
func lowest(n, d int) api.Frac {
	a, b := d, max(n, -n)
	for b != 0 {
		a, b = b, a%b
	}
	return api.Frac{Num: n / a, Den: d / a}
}

// smallOne returns n / d in lowest terms, for d above 0: ErrLarge if it is not small.
func smallOne(d, n int) (api.Frac, api.Errno) {
	f := lowest(n, d)
	if sizeError(f.Num, api.MaxPart) != api.OK || f.Den > api.MaxPart {
		return api.Frac{}, api.ErrLarge
	}
	return f, api.OK
}

// small returns fractions with one denominator above 0: nothing and ErrLarge if one of them is not small.
func small(d int, numerators ...int) ([]api.Frac, api.Errno) {
	var out []api.Frac
	for _, n := range numerators {
		f, e := smallOne(d, n)
		if e != api.OK {
			return nil, e
		}
		out = append(out, f)
	}
	return out, api.OK
}

// smallPair returns two fractions likewise.
func smallPair(d, first, second int) ([2]api.Frac, api.Errno) {
	var out [2]api.Frac
	l, e := small(d, first, second)
	copy(out[:], l)
	return out, e
}

// scaled returns the enclosure of a number times by.
func scaled(r api.Range, by int) api.Range {
	return api.Range{Lo: min(r.Lo*by, r.Hi*by), Hi: max(r.Lo*by, r.Hi*by)}
}

// added returns the enclosure of the sum of two numbers.
func added(a, b api.Range) api.Range {
	return api.Range{Lo: a.Lo + b.Lo, Hi: a.Hi + b.Hi}
}

// divided returns the least enclosure of a number divided by d above 0.
func divided(r api.Range, d int) api.Range {
	return api.Range{Lo: floorOf(r.Lo, d), Hi: ceilOf(r.Hi, d)}
}

// around returns the numbers that are at most a margin away from n.
func around(n, margin int) api.Range {
	return api.Range{Lo: n - margin, Hi: n + margin}
}
