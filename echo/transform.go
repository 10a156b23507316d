package echo

import (
	"math/bits"

	"swath/api"
)

// Transform returns the transform of a list modulo EchoPrime.
func Transform(a []int) ([]int, api.Errno) {
	if e := checkList(a); e != api.OK {
		return nil, e
	}
	return transformBy(a, rootOf(len(a)), 1), api.OK
}

// Inverse returns the list of which a is the transform.
func Inverse(a []int) ([]int, api.Errno) {
	if e := checkList(a); e != api.OK {
		return nil, e
	}
	return transformBy(a, reciprocal(rootOf(len(a))), reciprocal(len(a))), api.OK
}

// Correlate returns the correlation of a with b, around their end.
func Correlate(a, b []int) ([]int, api.Errno) {
	if e := checkList(a); e != api.OK {
		return nil, e
	}
	if e := checkList(b); e != api.OK {
		return nil, e
	}
	if len(a) != len(b) {
		return nil, api.ErrClash
	}
	out := make([]int, len(a))
	for s := range out {
		for k, y := range b {
			out[s] = (out[s] + a[(s+k)%len(a)]*y) % api.EchoPrime
		}
	}
	return out, api.OK
}

func checkList(a []int) api.Errno {
	if len(a) > api.MaxTransform || bits.OnesCount(uint(len(a))) != 1 {
		return api.ErrShape
	}
	for _, x := range a {
		if x < 0 || x >= api.EchoPrime {
			return api.ErrRange
		}
	}
	return api.OK
}

// transformBy sums with the powers of a root, and multiplies each sum by a factor.
func transformBy(a []int, root, factor int) []int {
	out := make([]int, len(a))
	step := 1
	for k := range out {
		sum, turn := 0, 1
		for _, x := range a {
			sum = (sum + x*turn) % api.EchoPrime
			turn = turn * step % api.EchoPrime
		}
		out[k] = sum * factor % api.EchoPrime
		step = step * root % api.EchoPrime
	}
	return out
}

func rootOf(n int) int {
	return power(api.EchoRoot, (api.EchoPrime-1)/n)
}

// reciprocal is by Fermat: EchoPrime is a prime.
func reciprocal(x int) int {
	return power(x, api.EchoPrime-2)
}

func power(x, exponent int) int {
	result := 1
	for ; exponent > 0; exponent /= 2 {
		if exponent%2 == 1 {
			result = result * x % api.EchoPrime
		}
		x = x * x % api.EchoPrime
	}
	return result
}
