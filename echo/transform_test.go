package echo_test

import (
	"math/big"
	"testing"

	"swath/api"
	"swath/echo"
)

// transformed sums with big numbers what the chapter defines as the transform.
func transformed(a []int) []int {
	p, n := big.NewInt(api.EchoPrime), len(a)
	w := new(big.Int).Exp(big.NewInt(api.EchoRoot), big.NewInt(int64((api.EchoPrime-1)/n)), p)
	out := make([]int, n)
	for k := range out {
		sum := new(big.Int)
		for j, x := range a {
			turn := new(big.Int).Exp(w, big.NewInt(int64(j*k)), p)
			sum.Add(sum, turn.Mul(turn, big.NewInt(int64(x))))
		}
		out[k] = int(sum.Mod(sum, p).Int64())
	}
	return out
}

func correlated(a, b []int) []int {
	out := make([]int, len(a))
	for s := range out {
		sum := new(big.Int)
		for k := range b {
			x := big.NewInt(int64(a[(s+k)%len(a)]))
			sum.Add(sum, x.Mul(x, big.NewInt(int64(b[k]))))
		}
		out[s] = int(sum.Mod(sum, big.NewInt(api.EchoPrime)).Int64())
	}
	return out
}

func TestP1_3Examples(t *testing.T) {
	for _, x := range []struct{ a, right []int }{
		{[]int{1, 2}, []int{3, 998244352}},
		{[]int{1, 0, 0, 0}, []int{1, 1, 1, 1}},
		{[]int{5}, []int{5}},
		{[]int{0, 0}, []int{0, 0}},
		{[]int{0, 1, 0, 0}, []int{1, 911660635, 998244352, 86583718}},
		{[]int{998244352, 998244352}, []int{998244351, 0}},
	} {
		a, e := echo.Transform(x.a)
		want(t, "Transform", a, e, x.right, api.OK)
		a, e = echo.Inverse(x.right)
		want(t, "Inverse", a, e, x.a, api.OK)
	}
	a, e := echo.Correlate([]int{1, 2}, []int{3, 4})
	want(t, "Correlate", a, e, []int{11, 10}, api.OK)
	a, e = echo.Correlate([]int{1, 2, 3, 4}, []int{0, 1, 0, 0})
	want(t, "Correlate with one 1", a, e, []int{2, 3, 4, 1}, api.OK)
	a, e = echo.Correlate([]int{998244352}, []int{998244352})
	want(t, "Correlate of the greatest numbers", a, e, []int{1}, api.OK)
}

func TestP1_3Sums(t *testing.T) {
	r := numbers{5}
	for n := 1; n <= api.MaxTransform; n *= 2 {
		a, b := r.list(n), r.list(n)
		a[0] = api.EchoPrime - 1
		got, e := echo.Transform(a)
		want(t, "Transform", got, e, transformed(a), api.OK)
		got, e = echo.Inverse(transformed(a))
		want(t, "Inverse", got, e, a, api.OK)
		got, e = echo.Correlate(a, b)
		want(t, "Correlate", got, e, correlated(a, b), api.OK)
	}
}

func TestP1_3Errors(t *testing.T) {
	for what, x := range map[string]struct {
		a []int
		e api.Errno
	}{
		"none":                    {nil, api.ErrShape},
		"three":                   {[]int{1, 2, -3}, api.ErrShape},
		"127":                     {make([]int, 127), api.ErrShape},
		"256":                     {make([]int, 256), api.ErrShape},
		"below 0":                 {[]int{0, -1}, api.ErrRange},
		"the prime":               {[]int{998244353}, api.ErrRange},
		"the prime in the middle": {[]int{0, 1, 998244353, 2}, api.ErrRange},
	} {
		a, e := echo.Transform(x.a)
		want(t, "Transform of "+what, a, e, []int(nil), x.e)
		a, e = echo.Inverse(x.a)
		want(t, "Inverse of "+what, a, e, []int(nil), x.e)
		a, e = echo.Correlate(x.a, []int{1, 2})
		want(t, "Correlate of "+what, a, e, []int(nil), x.e)
		a, e = echo.Correlate([]int{1, 2}, x.a)
		want(t, "Correlate with "+what, a, e, []int(nil), x.e)
	}
	a, e := echo.Correlate([]int{-1}, []int{1, 2, 3})
	want(t, "Correlate: the first list first", a, e, []int(nil), api.ErrRange)
	a, e = echo.Correlate([]int{1, 2}, []int{1, 2, 3, 4})
	want(t, "Correlate of unlike lists", a, e, []int(nil), api.ErrClash)
}

// P1.10: Inverse undoes Transform, and correlations are products of transforms.
func TestP1_10Transforms(t *testing.T) {
	r := numbers{6}
	for n := 1; n <= api.MaxTransform; n *= 2 {
		a, b := r.list(n), r.list(n)
		x, e := echo.Transform(a)
		y, f := echo.Transform(b)
		back, g := echo.Inverse(x)
		want(t, "Inverse of Transform", back, g, a, api.OK)
		c, h := echo.Correlate(a, b)
		z, i := echo.Transform(c)
		if e != api.OK || f != api.OK || h != api.OK || i != api.OK {
			t.Fatal("errors", e, f, h, i)
		}
		for k := range z {
			right := x[k] * y[(n-k)%n] % api.EchoPrime
			want(t, "the transform of a correlation", z[k], api.OK, right, api.OK)
			z[k] = right
		}
		small, e := echo.Inverse(z)
		want(t, "the correlation by transforms", small, e, c, api.OK)
	}
}

// P1.10: Compress by transforms is Compress by sums.
func TestP1_10CompressByTransforms(t *testing.T) {
	line, code := []int{3, 1, 4, 1, 5, 9, 2, 6}, []int{2, 1, 3, 0, 0, 0, 0, 0}
	sums, e := echo.Correlate(line, code)
	if e != api.OK {
		t.Fatal("error", e)
	}
	f, e := echo.Compress(row(3, 1, 4, 1, 5, 9, 2, 6), []complex64{2, 1, 3})
	if e != api.OK {
		t.Fatal("error", e)
	}
	for s, z := range f.Data {
		want(t, "a sum", sums[s], api.OK, int(real(z)), api.OK)
	}
}
