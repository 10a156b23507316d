package echo_test

import (
	"math"
	"testing"

	"swath/api"
	"swath/echo"
)

func TestP1_1CheckImage(t *testing.T) {
	nan := complex64(complex(math.NaN(), 0))
	full := api.RadarImage{Lines: 64, Samples: 64, Data: make([]complex64, 4096)}
	for what, x := range map[string]struct {
		im api.RadarImage
		n  int
		e  api.Errno
	}{
		"one sample":                  {row(0), 0, api.OK},
		"the largest":                 {full, 0, api.OK},
		"the greatest parts":          {row(2047-2047i, -2047+2047i), 0, api.OK},
		"minus zero":                  {row(minusZero64), 0, api.OK},
		"nothing":                     {api.RadarImage{}, 0, api.ErrRange},
		"lines below 0":               {api.RadarImage{Lines: -1, Samples: -1, Data: make([]complex64, 1)}, 0, api.ErrRange},
		"the least int":               {api.RadarImage{Lines: math.MinInt, Samples: 2}, 0, api.ErrRange},
		"lines whose product is 0":    {api.RadarImage{Lines: 1 << 32, Samples: 1 << 32}, 0, api.ErrRange},
		"65 lines":                    {api.RadarImage{Lines: 65, Samples: 1, Data: make([]complex64, 65)}, 0, api.ErrRange},
		"65 samples":                  {api.RadarImage{Lines: 1, Samples: 65, Data: make([]complex64, 65)}, 0, api.ErrRange},
		"no samples":                  {api.RadarImage{Lines: 1}, 0, api.ErrRange},
		"a sample missing":            {api.RadarImage{Lines: 2, Samples: 2, Data: []complex64{1, 2, 0.5}}, 0, api.ErrShape},
		"a sample more":               {api.RadarImage{Lines: 1, Samples: 1, Data: []complex64{1, 0.5}}, 0, api.ErrShape},
		"wrong size before data":      {api.RadarImage{Lines: 65, Samples: 1, Data: []complex64{0.5}}, 0, api.ErrRange},
		"half a real part":            {row(1, 2, 0.5), 2, api.ErrWhole},
		"half an imaginary part":      {row(1, 0.5i, 0.5), 1, api.ErrWhole},
		"NaN":                         {row(nan), 0, api.ErrWhole},
		"infinity":                    {row(0, complex64(complex(0, math.Inf(-1)))), 1, api.ErrWhole},
		"4000":                        {row(0, 0, 4000), 2, api.ErrRange},
		"-2048":                       {row(0, -2048), 1, api.ErrRange},
		"2048 i":                      {row(2048i), 0, api.ErrRange},
		"-2048 i":                     {row(-2048i), 0, api.ErrRange},
		"whole and great":             {row(1e30), 0, api.ErrRange},
		"great and half in a sample":  {row(4000 + 0.5i), 0, api.ErrWhole},
		"great before half":           {row(1, 4000, 0.5), 1, api.ErrRange},
		"half in a further line":      {image(2, 1, 2, 3, 0.5), 3, api.ErrWhole},
		"the last sample of all":      {lastSample(full, 2048), 4095, api.ErrRange},
		"a little more than greatest": {row(2047.5), 0, api.ErrWhole},
	} {
		n, e := echo.CheckImage(x.im)
		want(t, what, n, e, x.n, x.e)
	}
}

func lastSample(im api.RadarImage, z complex64) api.RadarImage {
	im.Data = append([]complex64(nil), im.Data...)
	im.Data[len(im.Data)-1] = z
	return im
}

func TestP1_1CheckField(t *testing.T) {
	for what, x := range map[string]struct {
		f api.RadarField
		n int
		e api.Errno
	}{
		"one sample":             {field(1, 0), 0, api.OK},
		"the largest":            {api.RadarField{Lines: 64, Samples: 64, Data: make([]complex128, 4096)}, 0, api.OK},
		"the greatest parts":     {field(1, 1000000000-1000000000i), 0, api.OK},
		"nothing":                {api.RadarField{}, 0, api.ErrRange},
		"65 lines":               {api.RadarField{Lines: 65, Samples: 1, Data: make([]complex128, 65)}, 0, api.ErrRange},
		"65 samples":             {api.RadarField{Lines: 1, Samples: 65, Data: make([]complex128, 65)}, 0, api.ErrRange},
		"a sample missing":       {api.RadarField{Lines: 1, Samples: 2, Data: []complex128{0.5}}, 0, api.ErrShape},
		"a sample more":          {api.RadarField{Lines: 1, Samples: 2, Data: []complex128{0.5, 1, 1}}, 0, api.ErrShape},
		"beyond":                 {field(1, 0, 1000000001), 1, api.ErrRange},
		"beyond below 0":         {field(2, 0, -1000000001i), 1, api.ErrRange},
		"a little less than one": {field(1, 0, 0, 0.9999999999), 2, api.ErrWhole},
		"great and half":         {field(1, 1e30+0.5i), 0, api.ErrWhole},
		"great before half":      {field(1, 1e30, 0.5), 0, api.ErrRange},
	} {
		n, e := echo.CheckField(x.f)
		want(t, what, n, e, x.n, x.e)
	}
	for _, z := range notWhole {
		n, e := echo.CheckField(field(1, 1, z))
		want(t, "a part that is not whole", n, e, 1, api.ErrWhole)
	}
}

func TestP1_1CheckCode(t *testing.T) {
	for what, x := range map[string]struct {
		code []complex64
		n    int
		e    api.Errno
	}{
		"one sample":           {[]complex64{1}, 0, api.OK},
		"the greatest parts":   {[]complex64{0, 3 - 3i, -3 + 3i}, 0, api.OK},
		"32 samples":           {append(make([]complex64, 31), 1i), 0, api.OK},
		"none":                 {nil, 0, api.ErrShape},
		"33 samples":           {append(make([]complex64, 32), 0.5), 0, api.ErrLarge},
		"half":                 {[]complex64{0, 0.5}, 1, api.ErrWhole},
		"great and half":       {[]complex64{0, 4 + 0.5i}, 1, api.ErrWhole},
		"great":                {[]complex64{0, 0, 4}, 2, api.ErrRange},
		"-4 i":                 {[]complex64{-4i}, 0, api.ErrRange},
		"great before half":    {[]complex64{0, -4, 0.5}, 1, api.ErrRange},
		"zero":                 {[]complex64{0}, 0, api.ErrZero},
		"zeros":                {[]complex64{0, 0, minusZero64}, 0, api.ErrZero},
		"zeros, then a half":   {[]complex64{0, 0, 0.5i}, 2, api.ErrWhole},
		"an imaginary part":    {[]complex64{0, 1i}, 0, api.OK},
		"the first one counts": {[]complex64{1, 0, 0}, 0, api.OK},
	} {
		n, e := echo.CheckCode(x.code)
		want(t, what, n, e, x.n, x.e)
	}
}
