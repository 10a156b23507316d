package series

import (
	"strconv"
	"strings"

	"swath/api"
)

const (
	mostNumber = 9999999 // numbers in texts have at most 7 digits
	seriesWord = "series"
	epochWord  = "epoch"
)

// Print returns the text of a series.
func Print(s api.SeriesPoint) (string, api.Errno) {
	if e := CheckSeries(s); e != api.OK {
		return "", e
	}
	text := lineOf(seriesWord + " " + s.Name)
	for _, date := range s.Epochs {
		text += lineOf(epochWord, date.Day, date.Base, date.Phase, date.Margin)
	}
	return text, api.OK
}

// Parse returns the series with a text, or the number of the first line of another form.
func Parse(t string) (api.SeriesPoint, int, api.Errno) {
	if len(t) > api.MaxText {
		return api.SeriesPoint{}, 0, api.ErrLarge
	}
	s, wrong := readSeries(t)
	if wrong > 0 {
		return api.SeriesPoint{}, wrong, api.ErrSyntax
	}
	if e := CheckSeries(s); e != api.OK {
		return api.SeriesPoint{}, 0, e
	}
	return s, 0, api.OK
}

func lineOf(words string, numbers ...int) string {
	for _, n := range numbers {
		words += " " + strconv.Itoa(n)
	}
	return words + "\n"
}

// readSeries returns the series of all lines, and the number of the first wrong line, 0 if there is none. The first line
// is looked at also where there is no text.
func readSeries(t string) (api.SeriesPoint, int) {
	var s api.SeriesPoint
	for line := 1; line == 1 || t != ""; line++ {
		text, rest, ended := strings.Cut(t, "\n")
		if !ended || !readLine(text, line, &s) {
			return api.SeriesPoint{}, line
		}
		t = rest
	}
	return s, 0
}

// readLine adds the name or the date of a line to a series, and tells whether there is one. Only the first line has a
// name, and it has no date.
func readLine(text string, line int, s *api.SeriesPoint) bool {
	words := strings.Split(text, " ")
	if line == 1 {
		s.Name = words[len(words)-1]
		return words[0] == seriesWord && len(words) == 2
	}
	if words[0] != epochWord || len(words) != 5 {
		return false
	}
	var numbers [4]int
	for i := range numbers {
		n, is := readNumber(words[1+i])
		if !is {
			return false
		}
		numbers[i] = n
	}
	s.Epochs = append(s.Epochs, api.SeriesEpoch{Day: numbers[0], Base: numbers[1], Phase: numbers[2], Margin: numbers[3]})
	return true
}

// readNumber takes a word only if the number is written in no other way: this leaves out "+1", "01" and "-0".
func readNumber(word string) (int, bool) {
	n, err := strconv.Atoi(word)
	if err != nil || n < -mostNumber || n > mostNumber || strconv.Itoa(n) != word {
		return 0, false
	}
	return n, true
}
