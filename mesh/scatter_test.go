package mesh_test

import (
	"fmt"
	"math"
	"math/big"
	"slices"
	"testing"

	"swath/api"
	"swath/mesh"
)

func TestP6_2Dispersion(t *testing.T) {
	for _, x := range []struct {
		amplitudes []int
		right      [2]int
	}{
		{[]int{10, 10, 10}, [2]int{0, 1}}, {[]int{9, 12}, [2]int{1, 49}}, {[]int{0, 1}, [2]int{1, 1}}, {[]int{0, 0, 5}, [2]int{2, 1}},
		{[]int{3000, 0}, [2]int{1, 1}}, {[]int{1, 1}, [2]int{0, 1}}, {append(make([]int, 59), 3000), [2]int{59, 1}},
		{append(slices.Repeat([]int{3000}, 59), 2999), [2]int{59, 32399640001}}, {slices.Repeat([]int{3000}, 60), [2]int{0, 1}},
		{slices.Repeat([]int{3000, 1}, 30), [2]int{8994001, 9006001}},
	} {
		dispersion, e := mesh.Dispersion(x.amplitudes)
		want(t, fmt.Sprint(x.amplitudes), dispersion, e, x.right, api.OK)
	}
	r := numbers{6}
	for i := range 1000 {
		amplitudes := r.list(2+r.below(59), 0, []int{1, 5, 3000}[i%3])
		amplitudes[0]++
		dispersion, e := mesh.Dispersion(amplitudes[:min(len(amplitudes), 60)])
		if amplitudes[0] > 3000 {
			continue
		}
		want(t, fmt.Sprint(amplitudes), dispersion, e, lowestOf(dispersionOf(amplitudes)), api.OK)
	}
}

// dispersionOf divides the variance, a mean of squares, by the square of the mean.
func dispersionOf(amplitudes []int) *big.Rat {
	n := big.NewRat(int64(len(amplitudes)), 1)
	mean, variance := new(big.Rat), new(big.Rat)
	for _, a := range amplitudes {
		mean.Add(mean, big.NewRat(int64(a), 1))
	}
	mean.Quo(mean, n)
	for _, a := range amplitudes {
		away := new(big.Rat).Sub(big.NewRat(int64(a), 1), mean)
		variance.Add(variance, away.Mul(away, away))
	}
	variance.Quo(variance, n)
	return variance.Quo(variance, mean.Mul(mean, mean))
}

func lowestOf(x *big.Rat) [2]int {
	return [2]int{int(x.Num().Int64()), int(x.Denom().Int64())}
}

// wrongAmplitudes have their errors in the order of the chapter.
func wrongAmplitudes() map[string]wrong[[]int] {
	return map[string]wrong[[]int]{
		"none":                {nil, 0, api.ErrShape},
		"one":                 {[]int{7}, 0, api.ErrShape},
		"a wrong one":         {[]int{-7}, 0, api.ErrShape},
		"61":                  {slices.Repeat([]int{7}, 61), 0, api.ErrLarge},
		"61 wrong ones":       {slices.Repeat([]int{-7}, 61), 0, api.ErrLarge},
		"61 zeros":            {make([]int, 61), 0, api.ErrLarge},
		"below 0":             {[]int{7, -1, 7}, 0, api.ErrRange},
		"great":               {[]int{7, 7, 3001}, 0, api.ErrRange},
		"zero and great":      {[]int{0, 0, 3001}, 0, api.ErrRange},
		"a sum of 0":          {[]int{1, -1}, 0, api.ErrRange},
		"the least int":       {[]int{math.MinInt, 0}, 0, api.ErrRange},
		"the greatest int":    {[]int{0, math.MaxInt}, 0, api.ErrRange},
		"two zeros":           {[]int{0, 0}, 0, api.ErrZero},
		"60 zeros":            {make([]int, 60), 0, api.ErrZero},
		"two of the greatest": {[]int{math.MaxInt, math.MaxInt}, 0, api.ErrRange},
	}
}

func TestP6_2DispersionErrors(t *testing.T) {
	for what, x := range wrongAmplitudes() {
		dispersion, e := mesh.Dispersion(x.x)
		wantError(t, what, dispersion, e, x.e)
	}
}

// scatterers returns some with different places.
func scatterers(amplitudes ...[]int) []api.MeshScatterer {
	var l []api.MeshScatterer
	for i, of := range amplitudes {
		l = append(l, api.MeshScatterer{Place: api.MeshPoint{X: i, Y: 10000 - i*i}, Amplitudes: of})
	}
	return l
}

func TestP6_2Chosen(t *testing.T) {
	l := scatterers([]int{9, 12}, []int{10, 10, 10}, []int{0, 1}, []int{0, 0, 5}, []int{12, 9})
	for _, x := range []struct {
		most   api.Frac
		chosen []int
	}{
		{api.Frac{Num: 0, Den: 1}, []int{1}}, {api.Frac{Num: 1, Den: 49}, []int{0, 1, 4}}, {api.Frac{Num: 1, Den: 50}, []int{1}},
		{api.Frac{Num: 1, Den: 1}, []int{0, 1, 2, 4}}, {api.Frac{Num: 2, Den: 1}, []int{0, 1, 2, 3, 4}}, {api.Frac{Num: 999999999, Den: 1000000000}, []int{0, 1, 4}},
		{api.Frac{Num: 1000000000, Den: 999999999}, []int{0, 1, 2, 4}}, {api.Frac{Num: 1000000000, Den: 1}, []int{0, 1, 2, 3, 4}}, {api.Frac{Num: 1, Den: 1000000000}, []int{1}},
	} {
		chosen, e := mesh.Chosen(l, x.most)
		want(t, fmt.Sprint(x.most), chosen, e, x.chosen, api.OK)
	}
	chosen, e := mesh.Chosen(nil, api.Frac{Num: 1, Den: 2})
	want(t, "no scatterers", chosen, e, nil, api.OK)
	chosen, e = mesh.Chosen(scatterers([]int{0, 1}), api.Frac{Num: 1, Den: 2})
	want(t, "none of them", chosen, e, nil, api.OK)
}

// Where a dispersion is 59 to 32399640001, products with the fraction have more than 64 bits.
func TestP6_2ChosenOfLargeNumbers(t *testing.T) {
	steady := append(slices.Repeat([]int{3000}, 59), 2999)
	l := scatterers(steady, slices.Repeat([]int{3000, 1}, 30), append(make([]int, 59), 3000))
	for _, x := range []struct {
		most   api.Frac
		chosen []int
	}{
		{api.Frac{Num: 1000000000, Den: 1}, []int{0, 1, 2}}, {api.Frac{Num: 569350090, Den: 999999937}, []int{0}}, {api.Frac{Num: 284675045, Den: 999999937}, []int{0}},
		{api.Frac{Num: 999999937, Den: 1000000000}, []int{0, 1}}, {api.Frac{Num: 1, Den: 549146441}, nil}, {api.Frac{Num: 1, Den: 549146440}, []int{0}},
		{api.Frac{Num: 1, Den: 549146442}, nil}, {api.Frac{Num: 1, Den: 1000000000}, nil},
	} {
		chosen, e := mesh.Chosen(l, x.most)
		want(t, fmt.Sprint(x.most), chosen, e, x.chosen, api.OK)
	}
	r := numbers{7}
	for range 300 {
		var l []api.MeshScatterer
		for i := range 1 + r.below(40) {
			l = append(l, api.MeshScatterer{Place: api.MeshPoint{X: r.within(10000), Y: 250 * i}, Amplitudes: r.list(2+r.below(59), 1+r.below(3000), 3000)})
		}
		of := dispersionOf(l[0].Amplitudes)
		most := []*big.Rat{of, big.NewRat(1+int64(r.below(1000000000)), 1+int64(r.below(1000000000))), big.NewRat(1, 1+int64(r.below(10000)))}[r.below(3)]
		if most.Num().Int64() > 1000000000 || most.Denom().Int64() > 1000000000 {
			continue
		}
		var right []int
		for i, s := range l {
			if dispersionOf(s.Amplitudes).Cmp(most) <= 0 {
				right = append(right, i)
			}
		}
		f := lowestOf(most)
		chosen, e := mesh.Chosen(l, api.Frac{Num: f[0], Den: f[1]})
		want(t, fmt.Sprint(most), chosen, e, right, api.OK)
	}
}

func TestP6_2ChosenErrors(t *testing.T) {
	half, fine := api.Frac{Num: 1, Den: 2}, []int{9, 12}
	for what, x := range wrongPoints() {
		var l []api.MeshScatterer
		for _, p := range x.x {
			l = append(l, api.MeshScatterer{Place: p, Amplitudes: fine})
		}
		chosen, e := mesh.Chosen(l, api.Frac{Num: 2, Den: 4})
		wantError(t, what, chosen, e, x.e)
	}
	for what, x := range wrongAmplitudes() {
		chosen, e := mesh.Chosen(scatterers(fine, x.x, fine), api.Frac{})
		wantError(t, what, chosen, e, x.e)
		l := scatterers(fine, x.x, fine)
		l[2].Place.X = 10001
		chosen, e = mesh.Chosen(l, half)
		wantError(t, what+" ahead of a place", chosen, e, x.e)
		l[1].Place.Y = -10001
		chosen, e = mesh.Chosen(l, half)
		wantError(t, what+" at a place too far", chosen, e, api.ErrRange)
		l[1].Place = l[0].Place
		chosen, e = mesh.Chosen(l, half)
		wantError(t, what+" at a place again", chosen, e, api.ErrExists)
	}
	chosen, e := mesh.Chosen(scatterers(slices.Repeat([][]int{nil}, 41)...), half)
	wantError(t, "41 without amplitudes", chosen, e, api.ErrLarge)
	chosen, e = mesh.Chosen(scatterers(slices.Repeat([][]int{fine}, 40)...), api.Frac{Num: 0, Den: 1})
	want(t, "40 scatterers", chosen, e, nil, api.OK)
}

func TestP6_2ChosenFractions(t *testing.T) {
	for _, x := range []struct {
		most api.Frac
		e    api.Errno
	}{
		{api.Frac{}, api.ErrForm}, {api.Frac{Num: 1}, api.ErrForm}, {api.Frac{Num: 1, Den: -2}, api.ErrForm}, {api.Frac{Num: -1, Den: -2}, api.ErrForm},
		{api.Frac{Num: 2, Den: 4}, api.ErrForm}, {api.Frac{Num: 0, Den: 2}, api.ErrForm}, {api.Frac{Num: -2, Den: 4}, api.ErrForm}, {api.Frac{Num: 0, Den: -1}, api.ErrForm},
		{api.Frac{Num: 2000000000, Den: 2000000000}, api.ErrForm}, {api.Frac{Num: math.MinInt, Den: 2}, api.ErrForm}, {api.Frac{Num: 1, Den: math.MinInt}, api.ErrForm},
		{api.Frac{Num: math.MinInt, Den: math.MinInt}, api.ErrForm}, {api.Frac{Num: math.MinInt, Den: -1}, api.ErrForm}, {api.Frac{Num: 2000000000, Den: 4000000002}, api.ErrForm},
		{api.Frac{Num: -1, Den: 2}, api.ErrRange}, {api.Frac{Num: -1, Den: 1}, api.ErrRange}, {api.Frac{Num: math.MinInt, Den: 1}, api.ErrRange},
		{api.Frac{Num: math.MinInt, Den: 3}, api.ErrRange}, {api.Frac{Num: 1000000001, Den: 1}, api.ErrRange}, {api.Frac{Num: 1, Den: 1000000001}, api.ErrRange},
		{api.Frac{Num: 1000000001, Den: 1000000000}, api.ErrRange}, {api.Frac{Num: 1000000000, Den: 1000000001}, api.ErrRange}, {api.Frac{Num: math.MaxInt, Den: math.MaxInt - 1}, api.ErrRange},
		{api.Frac{Num: 0, Den: 1}, api.OK}, {api.Frac{Num: 1000000000, Den: 999999999}, api.OK}, {api.Frac{Num: 1, Den: 1000000000}, api.OK}, {api.Frac{Num: 1000000000, Den: 1}, api.OK},
	} {
		chosen, e := mesh.Chosen(nil, x.most)
		want(t, fmt.Sprint(x.most), chosen, e, nil, x.e)
		chosen, e = mesh.Chosen(scatterers([]int{5, 5}), x.most)
		if x.e == api.OK {
			want(t, fmt.Sprint(x.most), chosen, e, []int{0}, x.e)
		}
		wantError(t, fmt.Sprint(x.most), chosen, e, x.e)
	}
}
