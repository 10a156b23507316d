package orbit

import "swath/api"

// floorOf returns n / d rounded down, for d above 0.
func floorOf(n, d int) int {
	q := n / d
	if n%d < 0 {
		q--
	}
	return q
}

// ceilOf returns n / d rounded up, for d above 0.
func ceilOf(n, d int) int {
	return -floorOf(-n, d)
}

// nearestTo returns n / d rounded to the nearest whole number, halves up, for d above 0.
func nearestTo(n, d int) int {
	return floorOf(2*n+d, 2*d)
}

// lowest returns n / d in lowest terms, for d above 0.
func lowest(n, d int) api.Frac {
	a, b := d, max(n, -n)
	for b != 0 {
		a, b = b, a%b
	}
	return api.Frac{Num: n / a, Den: d / a}
}

// rootDown returns the square root of n, rounded down. It is found bit by bit, as squares of distances are too large
// for a root of floats to be exact; they are all below 2^58.
func rootDown(n int) int {
	root := 0
	for bit := 1 << 28; bit > 0; bit /= 2 {
		if next := root + bit; next*next <= n {
			root = next
		}
	}
	return root
}

// rootUp returns the square root of n, rounded up.
func rootUp(n int) int {
	root := rootDown(n)
	if root*root < n {
		root++
	}
	return root
}

func coordinates(p api.Place) [3]int {
	return [3]int{p.X, p.Y, p.Z}
}

// less returns the way from b to a.
func less(a, b api.Place) api.Place {
	return api.Place{X: a.X - b.X, Y: a.Y - b.Y, Z: a.Z - b.Z}
}

func product(a, b api.Place) int {
	return a.X*b.X + a.Y*b.Y + a.Z*b.Z
}

// withTick adds a tick behind all those of ascending ranges.
func withTick(ranges []api.Range, tick int) []api.Range {
	if n := len(ranges); n > 0 && ranges[n-1].Hi == tick-1 {
		ranges[n-1].Hi = tick
		return ranges
	}
	return append(ranges, api.Range{Lo: tick, Hi: tick})
}
