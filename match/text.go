package match

import (
	"strconv"
	"strings"

	"swath/api"
)

const (
	mostNumber    = 9999999999999999 // numbers in texts have at most 16 digits
	pointNumbers  = 5
	affineNumbers = 7
)

// FormatPoint returns the text of a point, whatever it is.
func FormatPoint(x api.MatchPoint) string {
	return joined(x.Line, x.Sample, x.By[0], x.By[1], x.Score)
}

// ParsePoint returns the point with a text.
func ParsePoint(s string) (api.MatchPoint, api.Errno) {
	n, e := readNumbers(s, pointNumbers)
	if e != api.OK {
		return api.MatchPoint{}, e
	}
	x := api.MatchPoint{Line: n[0], Sample: n[1], By: [2]int{n[2], n[3]}, Score: n[4]}
	if e := pointError(x); e != api.OK {
		return api.MatchPoint{}, e
	}
	return x, api.OK
}

// FormatAffine returns the text of an affine shift, whatever it is.
func FormatAffine(f api.MatchAffine) string {
	return joined(f.Den, f.Line[0], f.Line[1], f.Line[2], f.Sample[0], f.Sample[1], f.Sample[2])
}

// ParseAffine returns the affine shift with a text.
func ParseAffine(s string) (api.MatchAffine, api.Errno) {
	n, e := readNumbers(s, affineNumbers)
	if e != api.OK {
		return api.MatchAffine{}, e
	}
	f := api.MatchAffine{Den: n[0], Line: [3]int{n[1], n[2], n[3]}, Sample: [3]int{n[4], n[5], n[6]}}
	if e := CheckAffine(f); e != api.OK {
		return api.MatchAffine{}, e
	}
	return f, api.OK
}

func joined(numbers ...int) string {
	words := make([]string, len(numbers))
	for i, n := range numbers {
		words[i] = strconv.Itoa(n)
	}
	return strings.Join(words, " ")
}

// readNumbers returns the numbers of a text that must have so many.
func readNumbers(s string, count int) ([]int, api.Errno) {
	words := strings.Split(s, " ")
	if len(words) != count {
		return nil, api.ErrSyntax
	}
	numbers := make([]int, count)
	for i, word := range words {
		n, ok := readNumber(word)
		if !ok {
			return nil, api.ErrSyntax
		}
		numbers[i] = n
	}
	return numbers, api.OK
}

// readNumber takes a word only if the number is written in no other way: this leaves out "+1", "01" and "-0".
func readNumber(word string) (int, bool) {
	n, err := strconv.Atoi(word)
	if err != nil || n < -mostNumber || n > mostNumber || strconv.Itoa(n) != word {
		return 0, false
	}
	return n, true
}
