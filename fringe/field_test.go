package fringe_test

import (
	"math"
	"testing"

	"swath/api"
	"swath/echo"
	"swath/fringe"
)

// interferogram multiplies whole numbers.
func interferogram(a, b api.RadarImage) api.RadarField {
	out := api.RadarField{Lines: a.Lines, Samples: a.Samples}
	for i := range a.Data {
		x, y := int(real(a.Data[i])), int(imag(a.Data[i]))
		u, v := int(real(b.Data[i])), int(imag(b.Data[i]))
		out.Data = append(out.Data, complex(float64(x*u+y*v), float64(y*u-x*v)))
	}
	return out
}

// summed adds up whole numbers of a field, those of which taken tells, given the place of the result and theirs.
func summed(f api.RadarField, lines, samples int, taken func(at, from [2]int) bool) api.RadarField {
	out := api.RadarField{Lines: lines, Samples: samples}
	for i := range lines * samples {
		x, y := 0, 0
		for k, z := range f.Data {
			if taken([2]int{i / samples, i % samples}, [2]int{k / f.Samples, k % f.Samples}) {
				x, y = x+int(real(z)), y+int(imag(z))
			}
		}
		out.Data = append(out.Data, complex(float64(x), float64(y)))
	}
	return out
}

func looked(f api.RadarField, by [2]int) api.RadarField {
	return summed(f, f.Lines/by[0], f.Samples/by[1], func(at, from [2]int) bool {
		return from[0]/by[0] == at[0] && from[1]/by[1] == at[1]
	})
}

func filtered(f api.RadarField, half int) api.RadarField {
	return summed(f, f.Lines, f.Samples, func(at, from [2]int) bool {
		return max(from[0]-at[0], at[0]-from[0], from[1]-at[1], at[1]-from[1]) <= half
	})
}

func TestP4_2InterfereExamples(t *testing.T) {
	for what, x := range map[string]struct {
		a, b  api.RadarImage
		right api.RadarField
	}{
		"example 1":           {row(1, 1i), row(1, 1), field(1, 1, 1i)},
		"the other way round": {row(1, 1), row(1, 1i), field(1, 1, -1i)},
		"several lines":       {image(2, 1+2i, 3, 0, -1i), image(2, 3-1i, 1i, 5, -1i), field(2, (1+2i)*(3+1i), -3i, 0, 1)},
		"the greatest ones":   {row(2047+2047i, 2047+2047i), row(2047+2047i, -2047+2047i), field(1, 8380418, -8380418i)},
	} {
		f, e := fringe.Interfere(x.a, x.b)
		want(t, what, f, e, x.right, api.OK)
	}
}

func TestP4_2InterfereProducts(t *testing.T) {
	r := numbers{41}
	for _, size := range sizes() {
		a, b := r.image(size[0], size[1], api.MaxSample), r.image(size[0], size[1], api.MaxSample)
		f, e := fringe.Interfere(a, b)
		want(t, "Interfere", f, e, interferogram(a, b), api.OK)
	}
}

// imagesFunctions calls the functions of two images.
func imagesFunctions() map[string]func(a, b api.RadarImage) (any, api.Errno) {
	return map[string]func(a, b api.RadarImage) (any, api.Errno){
		"Interfere": func(a, b api.RadarImage) (any, api.Errno) { return fringe.Interfere(a, b) },
		"Coherence": func(a, b api.RadarImage) (any, api.Errno) { return fringe.Coherence(a, b, 1) },
		// the window is wrong, too
		"Coherence with half 5":  func(a, b api.RadarImage) (any, api.Errno) { return fringe.Coherence(a, b, 5) },
		"Coherence with half -1": func(a, b api.RadarImage) (any, api.Errno) { return fringe.Coherence(a, b, -1) },
	}
}

func TestP4_2ErrorsOfImages(t *testing.T) {
	wrongOnes := wrongImages()
	other := func(e api.Errno) api.RadarImage {
		if e == api.ErrShape {
			return wrongOnes["half a sample"].x
		}
		return wrongOnes["no data"].x
	}
	for name, f := range imagesFunctions() {
		for what, x := range wrongOnes {
			got, e := f(x.x, other(x.e))
			if e != x.e {
				t.Errorf("%s of %s and another wrong one: error %d, want %d", name, what, e, x.e)
			}
			zeroBeside(t, name, got, e)
			got, e = f(row(1, 2, 3), x.x)
			if e != x.e {
				t.Errorf("%s of an image and %s: error %d, want %d", name, what, e, x.e)
			}
			zeroBeside(t, name, got, e)
		}
		for what, b := range map[string]api.RadarImage{"a line more": image(2, 1, 2, 3, 4), "a sample more": row(1, 2, 3), "as many samples": image(2, 1, 2), "a sample less": row(1)} {
			got, e := f(row(1, 2), b)
			if e != api.ErrClash {
				t.Errorf("%s of %s: error %d", name, what, e)
			}
			zeroBeside(t, name, got, e)
		}
	}
}

func TestP4_2LookedExamples(t *testing.T) {
	six := field(2, 1, 2i, 3, 4, 5i, -6)
	for by, right := range map[[2]int]api.RadarField{
		{1, 1}: six,
		{1, 2}: field(2, 1+2i, 4+5i),
		{2, 1}: field(1, 5, 7i, -3),
		{2, 2}: field(1, 5+7i),
		{1, 3}: field(2, 4+2i, -2+5i),
		{2, 3}: field(1, 2+7i),
	} {
		f, e := fringe.Looked(six, by)
		want(t, "Looked", f, e, right, api.OK)
	}
	f, e := fringe.Looked(field(1, 1, 1i), [2]int{1, 2})
	want(t, "example 1", f, e, field(1, 1+1i), api.OK)
	f, e = fringe.Looked(field(3, 1, 2, 3, 4, 5, 6, 7, 8, 9), [2]int{2, 2})
	want(t, "what is left out", f, e, field(1, 1+2+4+5), api.OK)
}

func TestP4_2LookedSums(t *testing.T) {
	r := numbers{42}
	for _, size := range sizes() {
		f := r.field(size[0], size[1], 200000)
		for _, by := range [][2]int{{1, 1}, size, {1, size[1]}, {size[0], 1}, {1 + r.below(size[0]), 1 + r.below(size[1])}, {(size[0] + 1) / 2, (size[1] + 1) / 2}, {size[0]/2 + 1, size[1]/2 + 1}} {
			got, e := fringe.Looked(f, by)
			want(t, "Looked", got, e, looked(f, by), api.OK)
		}
	}
}

func TestP4_2LookedErrors(t *testing.T) {
	for what, x := range wrongFields() {
		f, e := fringe.Looked(x.x, [2]int{0, 0})
		want(t, what+", ahead of looks", f, e, api.RadarField{}, x.e)
		f, e = fringe.Looked(x.x, [2]int{1, 1})
		want(t, what, f, e, api.RadarField{}, x.e)
	}
	three := field(3, 1000000000, 1000000000, 2, 2, 3, 3)
	for _, by := range [][2]int{{0, 1}, {1, 0}, {4, 1}, {1, 3}, {-1, 1}, {1, -1}, {0, 0}, {2, 3}, {4, 2}, {math.MinInt, 1}, {1, math.MaxInt}, {0, 2}} {
		f, e := fringe.Looked(three, by)
		want(t, "Looked by what is none", f, e, api.RadarField{}, api.ErrRange)
	}
}

func TestP4_2LookedLarge(t *testing.T) {
	const most = 1000000000
	for _, z := range []complex128{1, -1, 1i, -1i} {
		f, e := fringe.Looked(field(1, 5, 5, most*z, z), [2]int{1, 2})
		want(t, "one more than the limit", f, e, api.RadarField{}, api.ErrLarge)
		f, e = fringe.Looked(field(1, 5, 5, most*z, 0), [2]int{1, 2})
		want(t, "the limit", f, e, field(1, 10, most*z), api.OK)
		f, e = fringe.Looked(field(1, most*z, most*z, -most*z, -z), [2]int{1, 4})
		want(t, "large on the way alone", f, e, field(1, (most-1)*z), api.OK)
		f, e = fringe.Looked(field(1, 1, 2, most*z), [2]int{1, 2})
		want(t, "large, but left out", f, e, field(1, 3), api.OK)
	}
	f, e := fringe.Looked(field(1, most-most*1i, 0), [2]int{1, 2})
	want(t, "both parts at the limit", f, e, field(1, most-most*1i), api.OK)
	full := api.RadarField{Lines: 64, Samples: 64, Data: make([]complex128, 4096)}
	for i := range full.Data {
		full.Data[i] = most - most*1i
	}
	f, e = fringe.Looked(full, [2]int{64, 64})
	want(t, "the greatest sum", f, e, api.RadarField{}, api.ErrLarge)
	full.Data[0] = -1
	for i := range 2047 {
		full.Data[2*i+1] = -full.Data[2*i+1]
	}
	f, e = fringe.Looked(full, [2]int{64, 64})
	want(t, "the greatest numbers, all but two of which go away", f, e, field(1, most-1-most*1i), api.OK)
}

func TestP4_2FilteredExamples(t *testing.T) {
	six := field(2, 1, 2i, 3, 4, 5i, -6)
	for half, right := range []api.RadarField{
		six,
		field(2, 5+7i, 2+7i, -3+7i, 5+7i, 2+7i, -3+7i),
		field(2, 2+7i, 2+7i, 2+7i, 2+7i, 2+7i, 2+7i),
	} {
		f, e := fringe.Filtered(six, half)
		want(t, "Filtered", f, e, right, api.OK)
	}
	f, e := fringe.Filtered(field(1, 1, 2, 4, 8, 16, 32), 2)
	want(t, "a line", f, e, field(1, 7, 15, 31, 62, 60, 56), api.OK)
	f, e = fringe.Filtered(field(6, 1, 2, 4, 8, 16, 32), 1)
	want(t, "a column", f, e, field(6, 3, 7, 14, 28, 56, 48), api.OK)
}

func TestP4_2FilteredSums(t *testing.T) {
	r := numbers{43}
	for _, size := range append(sizes()[:9], [2]int{1, 9}, [2]int{9, 1}, [2]int{10, 11}) {
		f := r.field(size[0], size[1], 10000000)
		for half := range api.MaxWindow + 1 {
			got, e := fringe.Filtered(f, half)
			want(t, "Filtered", got, e, filtered(f, half), api.OK)
		}
	}
	largest := r.field(64, 64, 10000000)
	got, e := fringe.Filtered(largest, 4)
	want(t, "Filtered, the largest", got, e, filtered(largest, 4), api.OK)
}

func TestP4_2FilteredErrors(t *testing.T) {
	for what, x := range wrongFields() {
		f, e := fringe.Filtered(x.x, 5)
		if x.e != api.ErrRange {
			want(t, what+", ahead of the window", f, e, api.RadarField{}, x.e)
		}
		f, e = fringe.Filtered(x.x, 1)
		want(t, what, f, e, api.RadarField{}, x.e)
	}
	for _, half := range []int{-1, 5, math.MinInt, math.MaxInt} {
		f, e := fringe.Filtered(field(1, 1000000000, 1), half)
		want(t, "a window that is none", f, e, api.RadarField{}, api.ErrRange)
	}
	const most = 1000000000
	for _, z := range []complex128{1, -1, 1i, -1i} {
		f, e := fringe.Filtered(field(1, 5, 5, most*z, z), 1)
		want(t, "one more than the limit", f, e, api.RadarField{}, api.ErrLarge)
		f, e = fringe.Filtered(field(1, most*z, 0), 4)
		want(t, "the limit", f, e, field(1, most*z, most*z), api.OK)
		f, e = fringe.Filtered(field(1, most*z, -most*z, most*z), 1)
		want(t, "the limit, and 0", f, e, field(1, 0, most*z, 0), api.OK)
		f, e = fringe.Filtered(field(1, most*z, -most*z, -most*z, most*z, 0), 4)
		want(t, "large on the way alone", f, e, field(1, 0, 0, 0, 0, 0), api.OK)
		f, e = fringe.Filtered(field(2, 0, 0, most*z, z), 1)
		want(t, "too large in the line below", f, e, api.RadarField{}, api.ErrLarge)
	}
}

func TestP4_2PhasesOf(t *testing.T) {
	for what, x := range map[string]struct {
		f     api.RadarField
		right api.PhaseMap
	}{
		"example 1, one": {field(1, 1, 1i), phases(1, 0, 1024)},
		"example 1, two": {field(1, 1+1i), phases(1, 512)},
		"the axes":       {field(2, 1, 1i, -1, -1i), phases(2, 0, 1024, -2048, -1024)},
		"void":           {field(1, 0, 5, 0), phases(1, void, 0, void)},
		"minus zero":     {field(1, complex(math.Copysign(0, -1), math.Copysign(0, -1)), complex(-5, math.Copysign(0, -1))), phases(1, void, -2048)},
		"chapter 1":      {field(3, 2+1i, 2-1i, -2+1i), phases(3, 302, -302, 1746)},
		"the greatest":   {field(1, 1000000000-1000000000i), phases(1, -512)},
	} {
		m, e := fringe.PhasesOf(x.f)
		want(t, what, m, e, x.right, api.OK)
	}
	for what, x := range wrongFields() {
		m, e := fringe.PhasesOf(x.x)
		want(t, what, m, e, api.PhaseMap{}, x.e)
	}
	r := numbers{44}
	for _, size := range sizes() {
		f, right := r.field(size[0], size[1], 1+r.below(1000000000)), api.PhaseMap{Rows: size[0], Columns: size[1]}
		for _, z := range f.Data {
			phase, e := echo.PhaseOf(z)
			if e == api.ErrVoid {
				phase = void
			}
			right.Phases = append(right.Phases, phase)
		}
		m, e := fringe.PhasesOf(f)
		want(t, "PhasesOf", m, e, right, api.OK)
	}
}

// P4.8: the phases of one image with itself are 0 or void.
func TestP4_8SelfPhases(t *testing.T) {
	r := numbers{45}
	for _, most := range []int{1, 3, api.MaxSample} {
		im := r.image(20, 30, most)
		im.Data[7], im.Data[8] = 0, minusZero64
		f, e := fringe.Interfere(im, im)
		m, g := fringe.PhasesOf(f)
		if e != api.OK || g != api.OK {
			t.Fatal("errors", e, g)
		}
		for i, n := range m.Phases {
			if right := map[bool]int{true: void, false: 0}[im.Data[i] == 0]; n != right {
				t.Errorf("the phase of %v with itself: %d", im.Data[i], n)
			}
		}
	}
}

// P4.8: maps of three scenes close within two parts.
func TestP4_8ThreeScenesClose(t *testing.T) {
	r := numbers{46}
	mapOf := func(a, b api.RadarImage) api.PhaseMap {
		f, e := fringe.Interfere(a, b)
		m, g := fringe.PhasesOf(f)
		if e != api.OK || g != api.OK {
			t.Fatal("errors", e, g)
		}
		return m
	}
	for _, most := range []int{1, 5, 100, api.MaxSample} {
		a, b, c := r.image(40, 50, most), r.image(40, 50, most), r.image(40, 50, most)
		m, e := fringe.Closure(mapOf(a, b), mapOf(b, c), mapOf(a, c))
		if e != api.OK {
			t.Fatal("Closure:", e)
		}
		for i, n := range m.Phases {
			isVoid := a.Data[i] == 0 || b.Data[i] == 0 || c.Data[i] == 0
			if isVoid != (n == void) || !isVoid && max(n, -n) > 2 {
				t.Errorf("the closure of %v, %v, %v: %d", a.Data[i], b.Data[i], c.Data[i], n)
			}
		}
	}
}

// P4.10: looks of looks are looks of the products.
func TestP4_10LooksOfLooks(t *testing.T) {
	r := numbers{47}
	for range 200 {
		f := r.field(1+r.below(40), 1+r.below(40), 500000)
		by := [2]int{1 + r.below(f.Lines), 1 + r.below(f.Samples)}
		once, e := fringe.Looked(f, by)
		if e != api.OK {
			t.Fatal("Looked:", e)
		}
		more := [2]int{1 + r.below(once.Lines), 1 + r.below(once.Samples)}
		twice, e := fringe.Looked(once, more)
		right, g := fringe.Looked(f, [2]int{by[0] * more[0], by[1] * more[1]})
		want(t, "looks of looks", twice, e, right, g)
	}
}
