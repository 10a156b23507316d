package echo_test

import (
	"math"
	"testing"

	"swath/api"
	"swath/echo"
)

func TestP1_7Added(t *testing.T) {
	im, e := echo.Added(row(1, 2i), row(3, -2i))
	want(t, "Added", im, e, row(4, 0), api.OK)
	im, e = echo.Added(image(2, 2000-2000i, 5), image(2, 47-47i, -6+1i))
	want(t, "Added to the limit", im, e, image(2, 2047-2047i, -1+1i), api.OK)
	im, e = echo.Added(row(minusZero64), row(minusZero64))
	if e != api.OK || hasMinusZero(im.Data) {
		t.Error("Added has -0")
	}
	for _, z := range []complex64{1, -1, 1i, -1i} {
		im, e = echo.Added(row(0, 2047*z), row(0, z))
		want(t, "Added beyond the limit", im, e, api.RadarImage{}, api.ErrLarge)
	}
	for what, b := range map[string]api.RadarImage{"lines": image(2, 2047, 2047), "samples": row(2047, 1), "both": image(2, 1, 1, 1, 1)} {
		im, e = echo.Added(row(1), b)
		want(t, "Added of unlike "+what, im, e, api.RadarImage{}, api.ErrClash)
	}
	im, e = echo.Added(image(1, 1, 2), image(2, 1, 2))
	want(t, "Added of as many samples in all", im, e, api.RadarImage{}, api.ErrClash)
	for what, x := range wrongImages() {
		im, e = echo.Added(x.im, row(0.5, 1, 1))
		want(t, "Added of "+what, im, e, api.RadarImage{}, x.e)
		im, e = echo.Added(row(1), x.im)
		want(t, "Added with "+what, im, e, api.RadarImage{}, x.e)
	}
}

func TestP1_7Shifted(t *testing.T) {
	im := image(3, 1, 2, 3, 4, 5, 6i)
	for by, right := range map[[2]int]api.RadarImage{
		{0, 0}:     im,
		{1, 0}:     image(3, 0, 0, 1, 2, 3, 4),
		{-1, 0}:    image(3, 3, 4, 5, 6i, 0, 0),
		{0, 1}:     image(3, 0, 1, 0, 3, 0, 5),
		{0, -1}:    image(3, 2, 0, 4, 0, 6i, 0),
		{1, -1}:    image(3, 0, 0, 2, 0, 4, 0),
		{-2, 1}:    image(3, 0, 5, 0, 0, 0, 0),
		{3, 0}:     image(3, 0, 0, 0, 0, 0, 0),
		{0, 2}:     image(3, 0, 0, 0, 0, 0, 0),
		{64, -64}:  image(3, 0, 0, 0, 0, 0, 0),
		{-64, 64}:  image(3, 0, 0, 0, 0, 0, 0),
		{-64, -64}: image(3, 0, 0, 0, 0, 0, 0),
	} {
		got, e := echo.Shifted(im, by)
		want(t, "Shifted", got, e, right, api.OK)
	}
	for _, by := range [][2]int{{65, 0}, {-65, 0}, {0, 65}, {0, -65}, {math.MinInt, 0}, {0, math.MinInt}, {math.MaxInt, 0}} {
		got, e := echo.Shifted(im, by)
		want(t, "Shifted too far", got, e, api.RadarImage{}, api.ErrRange)
	}
	got, e := echo.Shifted(row(minusZero64, minusZero64), [2]int{0, 1})
	if e != api.OK || hasMinusZero(got.Data) {
		t.Error("Shifted has -0")
	}
	for what, x := range wrongImages() {
		got, e := echo.Shifted(x.im, [2]int{65, 65})
		want(t, "Shifted "+what, got, e, api.RadarImage{}, x.e)
	}
}

func TestP1_7Gaps(t *testing.T) {
	for what, x := range map[string]struct {
		im    api.RadarImage
		right []api.Range
	}{
		"single lines and longer ones": {image(4, 0, 1, 0, 0), []api.Range{{Lo: 0, Hi: 0}, {Lo: 2, Hi: 3}}},
		"no gap":                       {image(3, 1, 2, 3i), nil},
		"nothing but a gap":            {image(3, 0, minusZero64, 0), []api.Range{{Lo: 0, Hi: 2}}},
		"one line":                     {row(0, 0), []api.Range{{Lo: 0, Hi: 0}}},
		"half a line":                  {image(3, 0, 1i, 0, 0, 1, 0), []api.Range{{Lo: 1, Hi: 1}}},
		"several ones":                 {image(7, 1, 0, 0, 1, 0, 1, 0), []api.Range{{Lo: 1, Hi: 2}, {Lo: 4, Hi: 4}, {Lo: 6, Hi: 6}}},
	} {
		gaps, e := echo.Gaps(x.im)
		want(t, what, gaps, e, x.right, api.OK)
	}
	for what, x := range wrongImages() {
		gaps, e := echo.Gaps(x.im)
		want(t, what, gaps, e, []api.Range(nil), x.e)
	}
}

func TestP1_7Clipped(t *testing.T) {
	for what, x := range map[string]struct {
		im    api.RadarImage
		right int
	}{
		"all kinds":       {row(2047, -2047, 2047i, -2047i, 0), 4},
		"one less":        {row(2046, -2046i), 0},
		"both parts once": {row(2047-2047i, 1), 1},
		"further lines":   {image(2, 0, 2047+1i, 3-2047i, 2046), 2},
	} {
		n, e := echo.Clipped(x.im)
		want(t, what, n, e, x.right, api.OK)
	}
	for what, x := range wrongImages() {
		n, e := echo.Clipped(x.im)
		want(t, what, n, e, 0, x.e)
	}
}
