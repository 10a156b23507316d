package series_test

import (
	"fmt"
	"strings"
	"testing"

	"swath/api"
	"swath/series"
)

const exampleText = "series p\nepoch 0 0 0 0\nepoch 10 10 30 0\nepoch 20 0 40 0\n"

func textOf(s api.SeriesPoint) string {
	text := fmt.Sprintf("series %s\n", s.Name)
	for _, date := range s.Epochs {
		text += fmt.Sprintf("epoch %d %d %d %d\n", date.Day, date.Base, date.Phase, date.Margin)
	}
	return text
}

func TestP8_7Print(t *testing.T) {
	text, e := series.Print(example())
	want(t, "example 10", text, e, exampleText, api.OK)
	text, e = series.Print(dates(100000, -100, -16000, 2048))
	want(t, "the far edge", text, e, "series p\nepoch 100000 -100 -16000 2048\n", api.OK)
	for what, s := range rightSeries() {
		text, e := series.Print(s)
		want(t, what, text, e, textOf(s), api.OK)
	}
	for what, x := range wrongSeries() {
		text, e := series.Print(x.x)
		wantError(t, what, text, e, x.e)
	}
}

func TestP8_7Parse(t *testing.T) {
	s, line, e := series.Parse(exampleText)
	want(t, "example 10", s, e, example(), api.OK)
	want(t, "example 10", line, e, 0, api.OK)
	s, line, e = series.Parse("series Z9-abcdefghi\nepoch 100000 -100 -16000 2048\n")
	right := dates(100000, -100, -16000, 2048)
	right.Name = "Z9-abcdefghi"
	want(t, "the far edge", s, e, right, api.OK)
	want(t, "the far edge", line, e, 0, api.OK)
	s, _, e = series.Parse("series epoch\nepoch 1 2 3 4\nepoch 5 6 7 8\n")
	right = dates(1, 2, 3, 4, 5, 6, 7, 8)
	right.Name = "epoch"
	want(t, "numbers in their order", s, e, right, api.OK)
}

func TestP8_7ParseSyntax(t *testing.T) {
	two := "series p\nepoch 0 0 0 0\n"
	for s, line := range map[string]int{
		"": 1, "\n": 1, " ": 1, "\n\n": 1, "wrong": 1, "wrong\n": 1, "series": 1, "series\n": 1, "series ": 1, "series p": 1,
		" series p\n": 1, "series p \n": 1, "series  p\n": 1, "series  \n": 1, "series p q\n": 1, "Series p\n": 1, "seriesp\n": 1, "series\tp\n": 1, "serie p\n": 1, "seriess p\n": 1,
		"p\n": 1, "epoch p\n": 1, "\n" + exampleText: 1, " " + exampleText: 1, "epoch 0 0 0 0\n": 1, "epoch 0 0 0 0\nseries p\n": 1, "series\nepoch 0 0 0 0\n": 1, "series p\x00\nwrong\n": 2,
		two + "series p\n": 3, two + "series q\nepoch 1 0 0 0\n": 3, "series p\nseries p\n": 2, "series p\nseries p\nepoch 0 0 0 0\n": 2, exampleText + exampleText: 5,
		two + "\n": 3, two + " ": 3, two + " \n": 3, two + "wrong": 3, exampleText + "epoch 30 0 0 0": 5, "series p\n\nepoch 0 0 0 0\n": 2, exampleText + "\n": 5, exampleText + "x": 5,
		"series p\nepoch 0 0 0 0": 2, "series p\nepoch": 2, "series p\nepoch\n": 2, "series p\nepoch \n": 2, "series p\nepoch 0\n": 2, "series p\nepoch 0 0\n": 2, "series p\nepoch 0 0 0\n": 2, "series p\nepoch 0 0 0 0 0\n": 2,
		"series p\nepoch 0 0 0 0 \n": 2, "series p\nepoch  0 0 0 0\n": 2, "series p\nepoch 0  0 0 0\n": 2, "series p\nepoch 0 0  0 0\n": 2, "series p\nepoch 0 0 0  0\n": 2, "series p\n epoch 0 0 0 0\n": 2, "series p\nepoch 0 0 0 \n": 2, "series p\nepoch  0 0 0\n": 2,
		"series p\nEpoch 0 0 0 0\n": 2, "series p\nepochs 0 0 0 0\n": 2, "series p\n0 0 0 0\n": 2, "series p\nepoch\t0 0 0 0\n": 2, "series p\nepoch 0 0 0 0\r\n": 2, "series p\nepoch 0 0 0 0\x00\n": 2,
		"series p\nepoch a 0 0 0\n": 2, "series p\nepoch 0 a 0 0\n": 2, "series p\nepoch 0 0 a 0\n": 2, "series p\nepoch 0 0 0 a\n": 2,
		"series p\nepoch +1 0 0 0\n": 2, "series p\nepoch 0 +1 0 0\n": 2, "series p\nepoch 0 0 +1 0\n": 2, "series p\nepoch 0 0 0 +1\n": 2,
		"series p\nepoch 01 0 0 0\n": 2, "series p\nepoch 0 -01 0 0\n": 2, "series p\nepoch 0 0 00 0\n": 2, "series p\nepoch 0 0 0 00\n": 2, "series p\nepoch 0 0 0 0000001\n": 2,
		"series p\nepoch -0 0 0 0\n": 2, "series p\nepoch 0 -0 0 0\n": 2, "series p\nepoch 0 0 -0 0\n": 2, "series p\nepoch 0 0 0 -0\n": 2, "series p\nepoch 0 - 0 0\n": 2, "series p\nepoch 0 --1 0 0\n": 2,
		"series p\nepoch 1.0 0 0 0\n": 2, "series p\nepoch 0x1 0 0 0\n": 2, "series p\nepoch 1_0 0 0 0\n": 2, "series p\nepoch 1e1 0 0 0\n": 2, "series p\nepoch 0 0 \u0663 0\n": 2, "series p\nepoch 0 \u2212" + "1 0 0\n": 2,
		"series p\nepoch 10000000 0 0 0\n": 2, "series p\nepoch 0 10000000 0 0\n": 2, "series p\nepoch 0 0 -10000000 0\n": 2, "series p\nepoch 0 0 0 10000000\n": 2, "series p\nepoch -10000000 0 0 0\n": 2,
		"series p\nepoch 99999999999999999999 0 0 0\n": 2, "series p\nepoch 0 0 0 " + strings.Repeat("9", 500) + "\n": 2, two + "epoch 18446744073709551617 0 0 0\n": 3,
		"series \nwrong\n": 2, "series 1\nepoch 0 0 0\n": 2, "series p\nepoch -1 0 0 0\nepoch\n": 3, "series p\nepoch 5 0 0 0\nepoch 5 0 0 0\nwrong\nwrong\n": 4, "wrong\nwrong\n": 1,
		"series p\n" + strings.Repeat("epoch 0 0 0 0\n", 30) + "epoch 0 0 0\n": 32, strings.Repeat("series p\n", 30): 2,
	} {
		got, number, e := series.Parse(s)
		wantError(t, fmt.Sprintf("%q", s), got, e, api.ErrSyntax)
		want(t, fmt.Sprintf("the line of %q", s), number, e, line, api.ErrSyntax)
	}
}

func TestP8_7ParseWrongSeries(t *testing.T) {
	two := "series p\nepoch 0 0 0 0\n"
	for s, right := range map[string]api.Errno{
		"series \n": api.ErrName, "series \nepoch 0 0 0 0\n": api.ErrName, "series 1\nepoch 0 0 0 0\n": api.ErrName, "series -a\nepoch 0 0 0 0\n": api.ErrName, "series abcdefghijklm\nepoch 0 0 0 0\n": api.ErrName,
		"series a\t\nepoch 0 0 0 0\n": api.ErrName, "series \r\nepoch 0 0 0 0\n": api.ErrName, "series p\r\nepoch 0 0 0 0\n": api.ErrName, "series \x00\nepoch 0 0 0 0\n": api.ErrName, "series a\xff\nepoch 0 0 0 0\n": api.ErrName,
		"series \u00e4\nepoch 0 0 0 0\n": api.ErrName, "series a_b\nepoch -1 0 0 0\n": api.ErrName, "series " + strings.Repeat("a", 1000) + "\n": api.ErrName, "series \u00a0\n": api.ErrName,
		"series p\n": api.ErrShape, "series p\n" + strings.Repeat("epoch 0 0 0 0\n", 20): api.ErrOrder, "series p\n" + strings.Repeat("epoch 0 0 0 0\n", 21): api.ErrLarge, "series p\n" + strings.Repeat("epoch -1 0 0 0\n", 21): api.ErrLarge,
		"series p\nepoch -1 0 0 0\n": api.ErrRange, "series p\nepoch 100001 0 0 0\n": api.ErrRange, "series p\nepoch 9999999 0 0 0\n": api.ErrRange, "series p\nepoch -9999999 0 0 0\n": api.ErrRange,
		"series p\nepoch 0 101 0 0\n": api.ErrRange, "series p\nepoch 0 -101 0 0\n": api.ErrRange, "series p\nepoch 0 -9999999 0 0\n": api.ErrRange, "series p\nepoch 0 0 16001 0\n": api.ErrRange, "series p\nepoch 0 0 -9999999 0\n": api.ErrRange,
		"series p\nepoch 0 0 0 -1\n": api.ErrRange, "series p\nepoch 0 0 0 2049\n": api.ErrRange, "series p\nepoch 0 0 0 9999999\n": api.ErrRange,
		two + "epoch 0 0 0 0\n": api.ErrOrder, two + "epoch 401 0 0 0\n": api.ErrLarge, two + "epoch 400 0 0 0\n": api.OK, two + "epoch 1 0 0 0\nepoch 1 0 0 0\n": api.ErrOrder,
	} {
		got, number, e := series.Parse(s)
		wantError(t, fmt.Sprintf("%q", s), got, e, right)
		want(t, fmt.Sprintf("the line of %q", s), number, e, 0, right)
	}
}

func TestP8_7ParseOfLongTexts(t *testing.T) {
	for s, x := range map[string]struct {
		line int
		e    api.Errno
	}{
		"series " + strings.Repeat("a", 59992) + "\n":                                {0, api.ErrName}, // 60000 bytes
		"series " + strings.Repeat("a", 59993) + "\n":                                {0, api.ErrLarge},
		"series " + strings.Repeat("a", 59993):                                       {1, api.ErrSyntax},
		"series " + strings.Repeat("a", 59994):                                       {0, api.ErrLarge},
		"series abcde\n" + strings.Repeat("epoch 0 0 0 0\n", 4284) + "epoch 1 0\n":   {4286, api.ErrSyntax}, // 59999 bytes
		"series abcd\n" + strings.Repeat("epoch 0 0 0 0\n", 4284) + "epoch 1 0 0\n":  {4286, api.ErrSyntax}, // 60000 bytes
		"series abcde\n" + strings.Repeat("epoch 0 0 0 0\n", 4284) + "epoch 1 0 0\n": {0, api.ErrLarge},
		"series abcdefghijk\n" + strings.Repeat("epoch 0 0 0 0\n", 4284) + "wrong":   {4286, api.ErrSyntax}, // 60000 bytes
		"series abcdefghijkl\n" + strings.Repeat("epoch 0 0 0 0\n", 4284) + "wrong":  {0, api.ErrLarge},
		"series abcdefghij\n" + strings.Repeat("epoch 0 0 0 0\n", 4284):              {0, api.ErrLarge}, // too many dates
		strings.Repeat("x", 60000):                                                   {1, api.ErrSyntax},
		strings.Repeat("x", 60001):                                                   {0, api.ErrLarge},
		strings.Repeat("\n", 60001):                                                  {0, api.ErrLarge},
		exampleText + strings.Repeat("\n", 60001-len(exampleText)):                   {0, api.ErrLarge},
		exampleText + strings.Repeat("\n", 60000-len(exampleText)):                   {5, api.ErrSyntax},
		"series p\nepoch 0 0 0 " + strings.Repeat("9", 50000) + "\n":                 {2, api.ErrSyntax},
		"series p\nepoch 0 0 0" + strings.Repeat(" ", 50000) + "0\n":                 {2, api.ErrSyntax},
		"series p" + strings.Repeat(" ", 50000) + "\nepoch 0 0 0 0\n":                {1, api.ErrSyntax},
	} {
		got, line, e := series.Parse(s)
		what := fmt.Sprintf("%d bytes, %q", len(s), s[len(s)-5:])
		wantError(t, what, got, e, x.e)
		want(t, what, line, e, x.line, x.e)
	}
}

func TestP8_12ParseUndoesPrint(t *testing.T) {
	r := numbers{27}
	for _, s := range r.anySeries(300) {
		text, e := series.Print(s)
		want(t, "Print", text, e, textOf(s), api.OK)
		again, line, f := series.Parse(text)
		if line != 0 {
			t.Errorf("%q: line %d", text, line)
		}
		want(t, text, again, f, s, api.OK)
	}
}
