package echo_test

import (
	"math"
	"reflect"
	"slices"
	"testing"

	"swath/api"
	"swath/echo"
)

// oddImages returns images of which most are wrong.
func oddImages() []api.RadarImage {
	r := numbers{12}
	out := []api.RadarImage{
		row(1, 2i), image(2, 0, 1, 2, 3), r.image(64, 64, api.MaxSample), row(minusZero64),
		{Lines: math.MinInt, Samples: math.MinInt}, {Lines: math.MaxInt, Samples: math.MaxInt},
		{Lines: 1 << 32, Samples: 1 << 32}, {Lines: -1, Samples: -1, Data: make([]complex64, 1)},
		{Lines: 64, Samples: 64}, {Data: make([]complex64, 5000)},
	}
	for _, x := range wrongImages() {
		out = append(out, x.im)
	}
	for _, z := range notWhole {
		out = append(out, row(complex64(z)))
	}
	return out
}

// oddFields returns fields of which most are wrong.
func oddFields() []api.RadarField {
	var out []api.RadarField
	for _, im := range oddImages() {
		f := api.RadarField{Lines: im.Lines, Samples: im.Samples}
		for _, z := range im.Data {
			f.Data = append(f.Data, complex128(z))
		}
		out = append(out, f)
	}
	return append(out, field(1, 1000000000-1000000000i, 0), field(1, 1e300))
}

func oddNumbers() []int {
	return []int{0, 1, -1, 64, -64, 65, 1024, 100000000, -100000001, math.MaxInt, math.MinInt}
}

// P1 of the document: every function terminates and does not panic, and beside an error all is zero.
func TestP1NoPanic(t *testing.T) {
	codes := [][]complex64{nil, {1, 1i}, {0}, make([]complex64, 40), {complex64(complex(math.NaN(), inf))}}
	for _, im := range oddImages() {
		echo.CheckImage(im)
		for _, code := range codes {
			echo.CheckCode(code)
			f, e := echo.Compress(im, code)
			zeroBeside(t, "Compress", e, f)
		}
		z, e := echo.PairSum(im)
		zeroBeside(t, "PairSum", e, z)
		n, e := echo.DopplerPhase(im)
		zeroBeside(t, "DopplerPhase", e, n)
		gaps, e := echo.Gaps(im)
		zeroBeside(t, "Gaps", e, gaps)
		n, e = echo.Clipped(im)
		zeroBeside(t, "Clipped", e, n)
		s, e := echo.Print(im)
		zeroBeside(t, "Print", e, s)
		for _, n := range oddNumbers() {
			a, e := echo.Shifted(im, [2]int{n, -n})
			zeroBeside(t, "Shifted", e, a)
		}
		for _, b := range oddImages() {
			a, e := echo.Added(im, b)
			zeroBeside(t, "Added", e, a)
		}
	}
	for _, f := range oddFields() {
		echo.CheckField(f)
		for _, code := range codes {
			g, e := echo.Focus(f, code)
			zeroBeside(t, "Focus", e, g)
		}
		at, n, e := echo.Peak(f)
		zeroBeside(t, "Peak", e, at, n)
		for _, x := range oddNumbers() {
			p, e := echo.Response(f, x)
			zeroBeside(t, "Response", e, p)
			for _, y := range oddNumbers() {
				n, e := echo.EnergyAt(f, x, y)
				zeroBeside(t, "EnergyAt", e, n)
			}
		}
	}
}

// P1 of the document, for the functions of numbers, lists and texts.
func TestP1NoPanicOfNumbers(t *testing.T) {
	for _, x := range oddNumbers() {
		d, e := echo.Direction(x)
		zeroBeside(t, "Direction", e, d)
		for _, y := range oddNumbers() {
			n, e := echo.Unfolded(x, y)
			zeroBeside(t, "Unfolded", e, n)
			n, e = echo.PhaseOf(complex(float64(x), float64(y)))
			zeroBeside(t, "PhaseOf", e, n)
			a, e := echo.Transform([]int{x, y})
			zeroBeside(t, "Transform", e, a)
			a, e = echo.Inverse([]int{x, y})
			zeroBeside(t, "Inverse", e, a)
			a, e = echo.Correlate([]int{x, y}, []int{y, x})
			zeroBeside(t, "Correlate", e, a)
		}
	}
	whole := "image 1 2 44223\n1 0 0 2\n"
	for i := range len(whole) {
		for _, s := range []string{whole[:i], whole[i:], whole[:i] + "\x00" + whole[i:], whole[:i] + "9" + whole[i+1:], whole[:i] + "-" + whole[i:]} {
			im, _, e := echo.Parse(s)
			zeroBeside(t, "Parse", e, im)
		}
	}
}

func zeroBeside(t *testing.T, what string, e api.Errno, results ...any) {
	t.Helper()
	for _, x := range results {
		if e != api.OK && !reflect.ValueOf(x).IsZero() {
			t.Errorf("%s: %v beside the error %d", what, x, e)
		}
	}
}

// R3: nothing is written into an argument, and results share no memory with them.
func TestR3ArgumentsStay(t *testing.T) {
	r := numbers{13}
	im, f, code, list := r.image(4, 8, 1000), r.field(4, 8, 1000), r.code(3), r.list(8)
	keptImage, keptField, keptCode, keptList := slices.Clone(im.Data), slices.Clone(f.Data), slices.Clone(code), slices.Clone(list)
	a, _ := echo.Compress(im, code)
	b, _ := echo.Focus(f, code)
	c, _ := echo.Added(im, im)
	d, _ := echo.Shifted(im, [2]int{})
	clear(a.Data)
	clear(b.Data)
	clear(c.Data)
	clear(d.Data)
	for _, transform := range []func([]int) ([]int, api.Errno){echo.Transform, echo.Inverse, func(a []int) ([]int, api.Errno) { return echo.Correlate(a, a) }} {
		l, _ := transform(list)
		clear(l)
		l, _ = transform(list[:1])
		clear(l)
	}
	echo.PairSum(im)
	echo.DopplerPhase(im)
	echo.Gaps(im)
	echo.Clipped(im)
	echo.Print(im)
	echo.Peak(f)
	echo.Response(f, 1)
	if !slices.Equal(im.Data, keptImage) || !slices.Equal(f.Data, keptField) || !slices.Equal(code, keptCode) || !slices.Equal(list, keptList) {
		t.Error("an argument is changed")
	}
}

// No result has -0, whatever signs the zeros of the arguments have.
func TestNoMinusZero(t *testing.T) {
	plus, minus := float32(0), float32(minusZero)
	zeros := []complex64{complex(plus, plus), complex(plus, minus), complex(minus, plus), complex(minus, minus), -1, 1, -1i, 1i}
	im := image(2, append(slices.Clone(zeros), zeros...)...)
	f := api.RadarField{Lines: im.Lines, Samples: im.Samples}
	for _, z := range im.Data {
		f.Data = append(f.Data, complex128(z))
	}
	for _, code := range [][]complex64{{1}, {-1}, {1i}, {-1i}, {complex(1, minus)}, {complex(minus, -1)}, {1, -1}} {
		a, e := echo.Compress(im, code)
		if e != api.OK || hasMinusZero(a.Data) {
			t.Error("Compress:", a, e)
		}
		a, e = echo.Focus(f, code)
		if e != api.OK || hasMinusZero(a.Data) {
			t.Error("Focus:", a, e)
		}
	}
	for i, x := range zeros {
		for _, y := range zeros {
			sum, e := echo.Added(row(x), row(y))
			z, g := echo.PairSum(image(2, x, y))
			if e != api.OK || g != api.OK || hasMinusZero(sum.Data) || hasMinusZero([]complex128{z}) {
				t.Error("Added or PairSum:", sum, z, e, g)
			}
		}
		moved, e := echo.Shifted(im, [2]int{0, i})
		if e != api.OK || hasMinusZero(moved.Data) {
			t.Error("Shifted:", moved, e)
		}
	}
}
