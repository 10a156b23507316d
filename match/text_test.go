package match_test

import (
	"math"
	"strconv"
	"strings"
	"testing"

	"swath/api"
	"swath/match"
)

func TestP3_6Format(t *testing.T) {
	for right, x := range map[string]api.MatchPoint{
		"12 3 0 -1 998":                  {Line: 12, Sample: 3, By: [2]int{0, -1}, Score: 998},
		"0 0 0 0 0":                      {},
		"-9223372036854775808 1 2 3 4":   {Line: math.MinInt, Sample: 1, By: [2]int{2, 3}, Score: 4},
		"-1 64 9 -9 9223372036854775807": {Line: -1, Sample: 64, By: [2]int{9, -9}, Score: math.MaxInt},
	} {
		want(t, "FormatPoint", match.FormatPoint(x), api.OK, right, api.OK)
	}
	for right, f := range map[string]api.MatchAffine{
		"10 0 0 1 10 1 0":   exampleAffine(),
		"0 0 0 0 0 0 0":     {},
		"-1 2 -3 4 -5 6 -7": affine(-1, [3]int{2, -3, 4}, [3]int{-5, 6, -7}),
		"4 2 6 8 10 12 14":  affine(4, [3]int{2, 6, 8}, [3]int{10, 12, 14}),
		"1 -9223372036854775808 0 0 0 0 9223372036854775807": affine(1, [3]int{math.MinInt}, [3]int{0, 0, math.MaxInt}),
	} {
		want(t, "FormatAffine", match.FormatAffine(f), api.OK, right, api.OK)
	}
}

func TestP3_6ParsePoint(t *testing.T) {
	for s, right := range map[string]api.MatchPoint{
		"12 3 0 -1 998":  {Line: 12, Sample: 3, By: [2]int{0, -1}, Score: 998},
		"0 0 0 0 0":      {},
		"63 63 8 8 1000": point(63, 63, 8, 8),
		"0 0 -8 -8 0":    {By: [2]int{-8, -8}},
	} {
		x, e := match.ParsePoint(s)
		want(t, s, x, e, right, api.OK)
	}
	for _, s := range []string{"-1 0 0 0 0", "64 0 0 0 0", "0 -1 0 0 0", "0 64 0 0 0", "0 0 9 0 0", "0 0 -9 0 0", "0 0 0 9 0", "0 0 0 -9 0", "0 0 0 0 -1", "0 0 0 0 1001", "9999999999999999 0 0 0 0", "0 0 0 0 -9999999999999999"} {
		x, e := match.ParsePoint(s)
		want(t, s, x, e, api.MatchPoint{}, api.ErrRange)
	}
	for _, s := range wrongTexts("12 3 0 -1 998") {
		x, e := match.ParsePoint(s)
		want(t, strconv.Quote(s), x, e, api.MatchPoint{}, api.ErrSyntax)
	}
	for _, s := range []string{"1 2 3 4 5 6", "99 99 99 99 x", "1 2 3 4", "10 0 0 1 10 1 0"} {
		x, e := match.ParsePoint(s)
		want(t, s, x, e, api.MatchPoint{}, api.ErrSyntax)
	}
}

func TestP3_6ParseAffine(t *testing.T) {
	const most = api.MaxMatchTerm
	for s, right := range map[string]api.MatchAffine{
		"10 0 0 1 10 1 0":  exampleAffine(),
		"4 2 6 8 10 12 14": affine(4, [3]int{2, 6, 8}, [3]int{10, 12, 14}),
		"1000000000000 1000000000000000 -1000000000000000 0 -1 0 1000000000000000": affine(1000000000000, [3]int{most, -most, 0}, [3]int{-1, 0, most}),
	} {
		f, e := match.ParseAffine(s)
		want(t, s, f, e, right, api.OK)
	}
	for _, s := range []string{"0 0 0 0 0 0 0", "-1 0 0 0 0 0 0", "1000000000001 0 0 0 0 0 0", "1 1000000000000001 0 0 0 0 0", "1 0 0 0 0 0 -9999999999999999", "9999999999999999 0 0 0 0 0 0"} {
		f, e := match.ParseAffine(s)
		want(t, s, f, e, api.MatchAffine{}, api.ErrRange)
	}
	for _, s := range wrongTexts("10 0 0 1 10 1 0") {
		f, e := match.ParseAffine(s)
		want(t, strconv.Quote(s), f, e, api.MatchAffine{}, api.ErrSyntax)
	}
	for _, s := range []string{"1 2 3 4 5 6", "1 2 3 4 5 6 7 8", "0 0 0 0 0 0 x", "12 3 0 -1 998"} {
		f, e := match.ParseAffine(s)
		want(t, s, f, e, api.MatchAffine{}, api.ErrSyntax)
	}
}

// wrongTexts returns texts of another form than a right one.
func wrongTexts(right string) []string {
	out := []string{"", " ", "x", "\n", strings.Repeat(" ", 4), strings.Repeat("1", 70000), strings.Repeat("1 ", 70000)}
	out = append(out, right+" ", " "+right, right+"\n", right+" 0", right+"\x00", strings.Replace(right, " ", "  ", 1), strings.Replace(right, " ", "\t", 1), strings.Replace(right, " ", "", 1), strings.Replace(right, " ", ",", 1))
	words := strings.Split(right, " ")
	for i, word := range words {
		for _, other := range []string{"", "-", "-0", "00", "0" + word, "+" + word, "--1", "1.0", "1e1", "0x1", "1_0", "10000000000000000", "-10000000000000000", "99999999999999999999", "00000000000000001", "\u0661", word + "\xff", "x", "'1'"} {
			changed := append([]string{}, words...)
			changed[i] = other
			out = append(out, strings.Join(changed, " "))
		}
	}
	return out
}

// P3.10: ParsePoint and ParseAffine undo the texts of right points and shifts.
func TestP3_10ParseUndoesFormat(t *testing.T) {
	r := numbers{24}
	for _, x := range r.points(500, 64) {
		back, e := match.ParsePoint(match.FormatPoint(x))
		want(t, "ParsePoint of FormatPoint", back, e, x, api.OK)
	}
	for i := range 500 {
		f := r.affine(1000000000, 1000000000)
		f.Line[i%3] *= 1000000
		f.Sample[i%3] *= -1000000
		back, e := match.ParseAffine(match.FormatAffine(f))
		want(t, "ParseAffine of FormatAffine", back, e, f, api.OK)
	}
}
