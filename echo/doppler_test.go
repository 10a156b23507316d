package echo_test

import (
	"math"
	"testing"

	"swath/api"
	"swath/echo"
)

func TestP1_6PairSum(t *testing.T) {
	for what, x := range map[string]struct {
		im    api.RadarImage
		right complex128
	}{
		"example 5":       {image(2, 1, 2, 1i, 2i), 5i},
		"three lines":     {image(3, 1, 2, 3i), 2 + 6i},
		"a conjugate":     {image(2, 1+2i, 3-1i), (3 - 1i) * (1 - 2i)},
		"no pair is left": {image(2, 5, 0, 0, 7), 0},
	} {
		z, e := echo.PairSum(x.im)
		want(t, what, z, e, x.right, api.OK)
		if hasMinusZero([]complex128{z}) {
			t.Error(what, "has -0")
		}
	}
	im := api.RadarImage{Lines: 64, Samples: 64}
	for range 4096 {
		im.Data = append(im.Data, 2047+2047i)
	}
	z, e := echo.PairSum(im)
	want(t, "the greatest sum", z, e, complex128(63*64*2*2047*2047), api.OK)
}

func TestP1_6DopplerPhase(t *testing.T) {
	for what, x := range map[string]struct {
		im    api.RadarImage
		right int
		e     api.Errno
	}{
		"example 5":     {image(2, 1, 2, 1i, 2i), 1024, api.OK},
		"no turn":       {image(3, 1, 2, 5), 0, api.OK},
		"half a turn":   {image(2, 1, -1), -2048, api.OK},
		"302 parts":     {image(2, 1, 2+1i), 302, api.OK},
		"back":          {image(2, 2+1i, 1), -302, api.OK},
		"a line alone":  {row(1, 1i), 0, api.ErrShape},
		"a line of 0":   {row(0), 0, api.ErrShape},
		"nothing but 0": {image(2, 0, 0), 0, api.ErrVoid},
		"a sum of 0":    {image(2, 1, 1, 1, -1), 0, api.ErrVoid},
	} {
		n, e := echo.DopplerPhase(x.im)
		want(t, what, n, e, x.right, x.e)
	}
}

func TestP1_6Errors(t *testing.T) {
	for what, x := range wrongImages() {
		z, e := echo.PairSum(x.im)
		want(t, "PairSum of "+what, z, e, complex128(0), x.e)
		n, e := echo.DopplerPhase(x.im)
		want(t, "DopplerPhase of "+what, n, e, 0, x.e)
	}
	z, e := echo.PairSum(row(1))
	want(t, "PairSum of a line alone", z, e, complex128(0), api.ErrShape)
	z, e = echo.PairSum(row(0.5))
	want(t, "PairSum of half a sample alone", z, e, complex128(0), api.ErrWhole)
}

func TestP1_6Unfolded(t *testing.T) {
	for _, x := range [][3]int{
		{1024, 5000, 5120}, {-2048, 0, -2048}, {2048, 0, -2048}, {0, -4096, -4096}, {100, 100, 100},
		{2047, 0, 2047}, {2049, 0, -2047}, {0, 2048, 0}, {0, 2049, 4096}, {0, -2048, -4096}, {0, -2047, 0},
		{4096, 6144, 4096}, {4096, 6145, 8192}, {-1, 1, -1},
		{100000000, -100000000, -99999488}, {-100000000, 100000000, 99999488}, {100000000, 100000000, 100000000},
	} {
		n, e := echo.Unfolded(x[0], x[1])
		want(t, "Unfolded", n, e, x[2], api.OK)
	}
	for _, n := range []int{100000001, -100000001, math.MaxInt, math.MinInt} {
		got, e := echo.Unfolded(n, 0)
		want(t, "Unfolded of a great phase", got, e, 0, api.ErrRange)
		got, e = echo.Unfolded(0, n)
		want(t, "Unfolded near a great phase", got, e, 0, api.ErrRange)
	}
}

func TestP1_6UnfoldedIsNearest(t *testing.T) {
	r := numbers{9}
	for range 2000 {
		phase, near := r.within(10000), r.within(100000)
		n, e := echo.Unfolded(phase, near)
		if e != api.OK || (n-phase)%4096 != 0 || n-near < -2048 || n-near > 2047 {
			t.Errorf("Unfolded of %d near %d: %d, %d", phase, near, n, e)
		}
	}
}

// P1.11: lines that all turn by one phase of 1024.
func TestP1_11Doppler(t *testing.T) {
	r := numbers{10}
	for lines := 2; lines <= 64; lines++ {
		im := r.image(1, 1+r.below(64), api.MaxSample)
		im.Data[0] = 1
		for len(im.Data) < lines*im.Samples {
			last := im.Data[len(im.Data)-im.Samples]
			im.Data = append(im.Data, complex(-imag(last), real(last)))
		}
		im.Lines = lines
		n, e := echo.DopplerPhase(im)
		want(t, "DopplerPhase", n, e, 1024, api.OK)
	}
}
