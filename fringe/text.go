package fringe

import (
	"strconv"
	"strings"

	"swath/api"
)

const (
	mostNumber = 999999999 // numbers in texts have at most 9 digits
	voidWord   = "*"
)

// Print returns the text of a map.
func Print(m api.PhaseMap) (string, api.Errno) {
	if e := mapError(m); e != api.OK {
		return "", e
	}
	text := "phases " + joined([]int{m.Rows, m.Columns}) + "\n"
	for row := range m.Rows {
		text += joined(m.Phases[row*m.Columns:(row+1)*m.Columns]) + "\n"
	}
	return text, api.OK
}

// Parse returns the map with a text, or the number of the first line of another form.
func Parse(s string) (api.PhaseMap, int, api.Errno) {
	if len(s) > api.MaxText {
		return api.PhaseMap{}, 0, api.ErrLarge
	}
	rows, wrong := readRows(s)
	if wrong > 0 {
		return api.PhaseMap{}, wrong, api.ErrSyntax
	}
	m, e := mapWith(rows[0], rows[1:])
	if e != api.OK {
		return api.PhaseMap{}, 0, e
	}
	return m, 0, api.OK
}

func joined(numbers []int) string {
	words := make([]string, len(numbers))
	for i, n := range numbers {
		words[i] = strconv.Itoa(n)
		if n == api.PhaseVoid {
			words[i] = voidWord
		}
	}
	return strings.Join(words, " ")
}

// readRows returns the numbers of each line, the first line's without its word, and the number of the first wrong line,
// 0 if there is none.
func readRows(s string) ([][]int, int) {
	var rows [][]int
	for line := 1; line == 1 || s != ""; line++ {
		text, rest, ended := strings.Cut(s, "\n")
		row, read := readLine(text, line == 1)
		if !ended || !read {
			return nil, line
		}
		rows = append(rows, row)
		s = rest
	}
	return rows, 0
}

// readLine returns the numbers of a line. The first line has a word and two numbers, none of them void.
func readLine(text string, first bool) ([]int, bool) {
	if !first {
		return readWords(text, readPhase)
	}
	text, headed := strings.CutPrefix(text, "phases ")
	row, read := readWords(text, readNumber)
	return row, headed && read && len(row) == 2
}

func readWords(text string, read func(word string) (int, bool)) ([]int, bool) {
	var row []int
	for _, word := range strings.Split(text, " ") {
		n, ok := read(word)
		if !ok {
			return nil, false
		}
		row = append(row, n)
	}
	return row, true
}

func readPhase(word string) (int, bool) {
	if word == voidWord {
		return api.PhaseVoid, true
	}
	return readNumber(word)
}

// readNumber takes a word only if the number is written in no other way: this leaves out "+1", "01" and "-0".
func readNumber(word string) (int, bool) {
	n, err := strconv.Atoi(word)
	if err != nil || n < -mostNumber || n > mostNumber || strconv.Itoa(n) != word {
		return 0, false
	}
	return n, true
}

// mapWith returns the map of a size with such rows. The rows are counted first, as the head may tell any size.
func mapWith(head []int, rows [][]int) (api.PhaseMap, api.Errno) {
	m := api.PhaseMap{Rows: head[0], Columns: head[1]}
	if len(rows) != m.Rows {
		return api.PhaseMap{}, api.ErrShape
	}
	for _, row := range rows {
		if len(row) != m.Columns {
			return api.PhaseMap{}, api.ErrShape
		}
		m.Phases = append(m.Phases, row...)
	}
	if e := mapError(m); e != api.OK {
		return api.PhaseMap{}, e
	}
	return m, api.OK
}
