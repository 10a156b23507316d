package echo_test

import (
	"testing"

	"swath/api"
	"swath/echo"
)

// compressed sums with whole numbers what the chapter defines as the compressed field.
func compressed(im api.RadarImage, code []complex64) api.RadarField {
	out := api.RadarField{Lines: im.Lines, Samples: im.Samples - len(code) + 1}
	for l := range out.Lines {
		for s := range out.Samples {
			x, y := 0, 0
			for k, c := range code {
				z := im.Data[l*im.Samples+s+k]
				a, b, p, q := int(real(z)), int(imag(z)), int(real(c)), -int(imag(c))
				x, y = x+a*p-b*q, y+a*q+b*p
			}
			out.Data = append(out.Data, complex(float64(x), float64(y)))
		}
	}
	return out
}

// focused likewise, with the lines.
func focused(f api.RadarField, code []complex64) api.RadarField {
	out := api.RadarField{Lines: f.Lines - len(code) + 1, Samples: f.Samples}
	for l := range out.Lines {
		for s := range out.Samples {
			x, y := 0, 0
			for k, c := range code {
				z := f.Data[(l+k)*f.Samples+s]
				a, b, p, q := int(real(z)), int(imag(z)), int(real(c)), -int(imag(c))
				x, y = x+a*p-b*q, y+a*q+b*p
			}
			out.Data = append(out.Data, complex(float64(x), float64(y)))
		}
	}
	return out
}

func TestP1_2CompressExamples(t *testing.T) {
	f, e := echo.Compress(row(1, 2, 3, 4), []complex64{1, 1i})
	want(t, "example 1", f, e, field(1, 1-2i, 2-3i, 3-4i), api.OK)
	f, e = echo.Compress(row(0, 1, 1, -1, 0), []complex64{1, 1, -1})
	want(t, "example 2", f, e, field(1, 0, 3, 0), api.OK)
	f, e = echo.Compress(row(5, 6i), []complex64{1i, 2})
	want(t, "a code as long as a line", f, e, field(1, 7i), api.OK)
	f, e = echo.Compress(image(2, 1, 2, 3, 4i), []complex64{2i})
	want(t, "a code of one sample", f, e, field(2, -2i, -4i, -6i, 8), api.OK)
}

func TestP1_2CompressSums(t *testing.T) {
	r := numbers{1}
	for range 200 {
		im := r.image(1+r.below(6), 1+r.below(64), api.MaxSample)
		code := r.code(1 + r.below(min(32, im.Samples)))
		f, e := echo.Compress(im, code)
		want(t, "Compress", f, e, compressed(im, code), api.OK)
	}
	im, code := api.RadarImage{Lines: 1, Samples: 32}, []complex64(nil)
	for range 32 {
		im.Data, code = append(im.Data, 2047+2047i), append(code, 3+3i)
	}
	f, e := echo.Compress(im, code)
	want(t, "the greatest sum", f, e, field(1, 32*2*2047*3), api.OK)
}

func TestP1_2CompressErrors(t *testing.T) {
	for what, x := range wrongImages() {
		f, e := echo.Compress(x.im, []complex64{0})
		want(t, what+", ahead of a code of 0", f, e, api.RadarField{}, x.e)
	}
	for what, x := range wrongCodes() {
		f, e := echo.Compress(row(1), x.code)
		want(t, what, f, e, api.RadarField{}, x.e)
	}
	f, e := echo.Compress(image(2, 1, 2), []complex64{1, 1})
	want(t, "a code longer than a line", f, e, api.RadarField{}, api.ErrShape)
	f, e = echo.Compress(row(1), []complex64{0, 0})
	want(t, "a long code of 0", f, e, api.RadarField{}, api.ErrZero)
}

func TestP1_2FocusExamples(t *testing.T) {
	f, e := echo.Focus(field(2, 1, 2, 1i, 2i), []complex64{1, 1i})
	want(t, "two lines to one", f, e, field(1, 2, 4), api.OK)
	f, e = echo.Focus(field(3, 1, 2, 3), []complex64{1, -1i})
	want(t, "three lines to two", f, e, field(2, 1+2i, 2+3i), api.OK)
	f, e = echo.Focus(field(1, 1000000000), []complex64{1i})
	want(t, "the greatest part", f, e, field(1, -1000000000i), api.OK)
	f, e = echo.Focus(field(2, 1000000000, 999999999), []complex64{2, -1})
	want(t, "great products with a small sum", f, e, api.RadarField{}, api.ErrLarge)
	f, e = echo.Focus(field(2, 1000000000, 1000000000), []complex64{2, -1})
	want(t, "great products with a sum of the limit", f, e, field(1, 1000000000), api.OK)
}

func TestP1_2FocusSums(t *testing.T) {
	r := numbers{2}
	for range 200 {
		f := r.field(1+r.below(64), 1+r.below(5), 5000000)
		code := r.code(1 + r.below(min(32, f.Lines)))
		got, e := echo.Focus(f, code)
		want(t, "Focus", got, e, focused(f, code), api.OK)
	}
}

func TestP1_2FocusErrors(t *testing.T) {
	for what, x := range wrongFields() {
		f, e := echo.Focus(x.f, []complex64{0})
		want(t, what+", ahead of a code of 0", f, e, api.RadarField{}, x.e)
	}
	for what, x := range wrongCodes() {
		f, e := echo.Focus(field(1, 1), x.code)
		want(t, what, f, e, api.RadarField{}, x.e)
	}
	f, e := echo.Focus(field(1, 1, 2), []complex64{1, 1})
	want(t, "a code longer than there are lines", f, e, api.RadarField{}, api.ErrShape)
	for _, z := range []complex128{1000000000, -1000000000, 1000000000i, -1000000000i} {
		f, e = echo.Focus(field(1, 0, z), []complex64{2})
		want(t, "a part that is too large", f, e, api.RadarField{}, api.ErrLarge)
	}
	f, e = echo.Focus(field(2, 1000000000, 1), []complex64{1, -1i})
	want(t, "parts of the limit", f, e, field(1, 1000000000+1i), api.OK)
	f, e = echo.Focus(field(2, 1000000000, 1), []complex64{1, 1})
	want(t, "one more than the limit", f, e, api.RadarField{}, api.ErrLarge)
}

// P1.9: linear.
func TestP1_9Linear(t *testing.T) {
	r := numbers{3}
	for range 100 {
		lines, samples := 1+r.below(8), 1+r.below(40)
		a, b := r.image(lines, samples, 1000), r.image(lines, samples, 1000)
		code := r.code(1 + r.below(min(32, samples)))
		both, e := echo.Added(a, b)
		sum, f := echo.Compress(both, code)
		x, g := echo.Compress(a, code)
		y, h := echo.Compress(b, code)
		if e != api.OK || f != api.OK || g != api.OK || h != api.OK {
			t.Fatal("errors", e, f, g, h)
		}
		for i := range x.Data {
			x.Data[i] += y.Data[i]
		}
		want(t, "the compressed field of a sum", sum, api.OK, x, api.OK)
	}
}

// P1.9: a shifted image that loses nothing.
func TestP1_9Shifted(t *testing.T) {
	r := numbers{4}
	for range 100 {
		im := r.image(2+r.below(6), 10+r.below(30), api.MaxSample)
		by := [2]int{r.within(1), r.within(3)}
		for i := range im.Data {
			line, sample := i/im.Samples+by[0], i%im.Samples+by[1]
			if line < 0 || line >= im.Lines || sample < 0 || sample >= im.Samples {
				im.Data[i] = 0
			}
		}
		code := r.code(1 + r.below(6))
		moved, e := echo.Shifted(im, by)
		a, f := echo.Compress(im, code)
		b, g := echo.Compress(moved, code)
		if e != api.OK || f != api.OK || g != api.OK {
			t.Fatal("errors", e, f, g)
		}
		for i, z := range a.Data {
			line, sample := i/a.Samples+by[0], i%a.Samples+by[1]
			if line >= 0 && line < a.Lines && sample >= 0 && sample < a.Samples {
				want(t, "the shifted field", b.Data[line*a.Samples+sample], api.OK, z, api.OK)
			}
		}
	}
}
