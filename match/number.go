package match

import (
	"cmp"
	"math/bits"
)

func sizeOf(n int) int {
	return max(n, -n)
}

// floorOf returns n / d rounded down, for d above 0.
func floorOf(n, d int) int {
	q := n / d
	if n%d < 0 {
		q--
	}
	return q
}

// nearestTo returns n / d rounded to the nearest whole number, halves up, for d above 0.
func nearestTo(n, d int) int {
	return floorOf(2*n+d, 2*d)
}

// divisorOf returns the greatest common divisor of a number above 0 and another one.
func divisorOf(a, b int) int {
	for b = sizeOf(b); b != 0; {
		a, b = b, a%b
	}
	return a
}

// lowest returns n / d in lowest terms, for d above 0.
func lowest(n, d int) [2]int {
	common := divisorOf(d, n)
	return [2]int{n / common, d / common}
}

// compared returns -1, 0 or 1 as a fraction is less than, equal to or greater than another one. Products of two scores
// need 128 bits.
func compared(a, b [2]int) int {
	high, low := bits.Mul64(uint64(a[0]), uint64(b[1]))
	otherHigh, otherLow := bits.Mul64(uint64(b[0]), uint64(a[1]))
	if high != otherHigh {
		return cmp.Compare(high, otherHigh)
	}
	return cmp.Compare(low, otherLow)
}

// partsOf returns a fraction from 0 to 1 in parts of so many, rounded down.
func partsOf(f [2]int, parts uint64) int {
	high, low := bits.Mul64(uint64(f[0]), parts)
	out, _ := bits.Div64(high, low, uint64(f[1]))
	return int(out)
}
