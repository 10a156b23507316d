package echo_test

import (
	"strconv"
	"strings"
	"testing"

	"swath/api"
	"swath/echo"
)

func TestP1_8Print(t *testing.T) {
	for right, im := range map[string]api.RadarImage{
		"image 1 2 44223\n1 0 0 2\n":          row(1, 2i),
		"image 1 1 15\n0 0\n":                 row(minusZero64),
		"image 2 1 46559\n-1 -2047\n2047 0\n": image(2, -1-2047i, 2047),
	} {
		s, e := echo.Print(im)
		want(t, "Print", s, e, right, api.OK)
	}
	for what, x := range wrongImages() {
		s, e := echo.Print(x.im)
		want(t, what, s, e, "", x.e)
	}
}

func TestP1_8Parse(t *testing.T) {
	im, n, e := echo.Parse("image 1 2 44223\n1 0 0 2\n")
	want(t, "example 6", im, e, row(1, 2i), api.OK)
	want(t, "example 6", n, e, 0, api.OK)
}

func TestP1_8ParseSyntax(t *testing.T) {
	for s, line := range map[string]int{
		"":                                      1,
		"\n":                                    1,
		"image":                                 1,
		"image\n":                               1,
		"image \n":                              1,
		"image 1 2\n1 0 0 2\n":                  1,
		"image 1 2 44223 1\n1 0 0 2\n":          1,
		"image 1 2 44223":                       1,
		" image 1 2 44223\n1 0 0 2\n":           1,
		"Image 1 2 44223\n1 0 0 2\n":            1,
		"image  1 2 44223\n1 0 0 2\n":           1,
		"image 1  2 44223\n1 0 0 2\n":           1,
		"image 1 2 44223 \n1 0 0 2\n":           1,
		"image 01 2 44223\n1 0 0 2\n":           1,
		"image 1 2 x\nx\n":                      1,
		"image 1 2 44223\r\n1 0 0 2\n":          1,
		"image1 2 44223\n1 0 0 2\n":             1,
		"images 1 2 44223\n1 0 0 2\n":           1,
		"1 2 44223\n1 0 0 2\n":                  1,
		"image 1 2 10000000\n1 0 0 2\n":         1,
		"image 1 2 44223\n1 0 0 2":              2,
		"image 1 2 44223\n\n":                   2,
		"image 1 2 44223\n1 0 0  2\n":           2,
		"image 1 2 44223\n 1 0 0 2\n":           2,
		"image 1 2 44223\n1 0 0 2 \n":           2,
		"image 1 2 44223\n1\t0 0 2\n":           2,
		"image 1 2 44223\n+1 0 0 2\n":           2,
		"image 1 2 44223\n1 -0 0 2\n":           2,
		"image 1 2 44223\n1 00 0 2\n":           2,
		"image 1 2 44223\n1 - 0 2\n":            2,
		"image 1 2 44223\n1 --1 0 2\n":          2,
		"image 1 2 44223\n1 1.0 0 2\n":          2,
		"image 1 2 44223\n1 0 0 2i\n":           2,
		"image 1 2 44223\n1 0x1 0 2\n":          2,
		"image 1 2 44223\n1 1_0 0 2\n":          2,
		"image 1 2 44223\n1 12345678 0 2\n":     2,
		"image 1 2 44223\n1 -12345678 0 2\n":    2,
		"image 1 2 44223\n1 00000001 0 2\n":     2,
		"image 1 2 44223\n1 \xff 0 2\n":         2,
		"image 1 2 44223\n1 \u0661 0 2\n":       2,
		"image 1 2 44223\n1 0 0 2\r\n":          2,
		"image 1 2 44223\n1 0 0 2\n\n":          3,
		"image 1 2 44223\n1 0 0 2\nx\n":         3,
		"image 1 2 44223\n1 0 0 2\n ":           3,
		"image 9 9 9\n1\n1 1 1\n1\n1 1 x\ny\n":  5,
		"image 1 1 99999999999999999999\n1 1\n": 1,
	} {
		im, n, e := echo.Parse(s)
		want(t, strconv.Quote(s), im, e, api.RadarImage{}, api.ErrSyntax)
		want(t, strconv.Quote(s), n, e, line, api.ErrSyntax)
	}
}

func TestP1_8ParseErrors(t *testing.T) {
	lines65, samples65 := strings.Repeat("0 0\n", 65), strings.Repeat("0 ", 129)+"0\n"
	for what, x := range map[string]struct {
		s string
		e api.Errno
	}{
		"no line":                  {"image 1 2 44223\n", api.ErrShape},
		"a line more":              {"image 1 2 44223\n1 0 0 2\n0\n", api.ErrShape},
		"a line less":              {"image 2 2 44223\n1 0 0 2\n", api.ErrShape},
		"lines below 0":            {"image -1 2 44223\n", api.ErrShape},
		"a part less":              {"image 1 2 44223\n1 0 0\n", api.ErrShape},
		"a part more":              {"image 1 2 44223\n1 0 0 2 0\n", api.ErrShape},
		"a second line less":       {"image 2 1 0\n9999 0\n0\n", api.ErrShape},
		"samples below 0":          {"image 1 -1 0\n1 1\n", api.ErrShape},
		"many lines":               {"image 9999999 1 0\n0 0\n", api.ErrShape},
		"no lines":                 {"image 0 1 0\n", api.ErrRange},
		"no image":                 {"image 0 0 0\n", api.ErrRange},
		"65 lines":                 {"image 65 1 0\n" + lines65, api.ErrRange},
		"65 samples":               {"image 1 65 0\n" + samples65, api.ErrRange},
		"a great part":             {"image 1 1 0\n2048 0\n", api.ErrRange},
		"a great part below 0":     {"image 1 1 0\n0 -2048\n", api.ErrRange},
		"seven digits":             {"image 1 1 0\n9999999 0\n", api.ErrRange},
		"seven digits below 0":     {"image 1 1 0\n0 -9999999\n", api.ErrRange},
		"another check":            {"image 1 2 44224\n1 0 0 2\n", api.ErrSum},
		"a check of 0":             {"image 1 2 0\n1 0 0 2\n", api.ErrSum},
		"a check that is too much": {"image 1 2 109744\n1 0 0 2\n", api.ErrSum},
		"a check below 0":          {"image 1 2 -21298\n1 0 0 2\n", api.ErrSum},
		"another part":             {"image 1 2 44223\n1 0 0 3\n", api.ErrSum},
		"a text that is too long":  {strings.Repeat("x", 60001), api.ErrLarge},
		"a long text that ends":    {"image 1 2 44223\n1 0 0 2\n" + strings.Repeat("\n", 60000), api.ErrLarge},
	} {
		im, n, e := echo.Parse(x.s)
		want(t, what, im, e, api.RadarImage{}, x.e)
		want(t, what, n, e, 0, x.e)
	}
	im, n, e := echo.Parse(strings.Repeat("x", 60000))
	want(t, "a text as long as may be", im, e, api.RadarImage{}, api.ErrSyntax)
	want(t, "a text as long as may be", n, e, 1, api.ErrSyntax)
}

// checked puts the check that is summed here in the place of the one of a text.
func checked(s string, im api.RadarImage) string {
	check := 0
	for _, z := range im.Data {
		check = (31*check + int(real(z)) + 2048) % 65521
		check = (31*check + int(imag(z)) + 2048) % 65521
	}
	lines := strings.Split(s, "\n")
	lines[0] = lines[0][:strings.LastIndex(lines[0], " ")+1] + strconv.Itoa(check)
	return strings.Join(lines, "\n")
}

// P1.12: Parse undoes Print.
func TestP1_12ParseUndoesPrint(t *testing.T) {
	r := numbers{11}
	for _, size := range [][2]int{{1, 1}, {1, 64}, {64, 1}, {3, 5}, {64, 64}} {
		im := r.image(size[0], size[1], api.MaxSample)
		im.Data[0] = -2047 - 2047i
		s, e := echo.Print(im)
		if e != api.OK || s != checked(s, im) {
			t.Error("Print: another check, or the error", e)
		}
		back, n, e := echo.Parse(s)
		want(t, "Parse of Print", back, e, im, api.OK)
		want(t, "Parse of Print", n, e, 0, api.OK)
		again, e := echo.Print(back)
		want(t, "Print of Parse", again, e, s, api.OK)
	}
}
