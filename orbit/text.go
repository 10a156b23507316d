package orbit

import (
	"strconv"
	"strings"

	"swath/api"
)

const (
	mostNumber   = 9999999999 // numbers in texts have at most 10 digits
	stateNumbers = 5
)

// The words of forms that are not written as they are. No word has a blank.
const (
	aName   = "a name"
	aNumber = "a number"
)

// A word is a part of a line, with the column of its first byte.
type word struct {
	text   string
	column int
}

// FormatState returns the text of a state, whatever it is.
func FormatState(s api.OrbitState) string {
	numbers := [stateNumbers]int{s.Tick, s.At.X, s.At.Y, s.At.Z, s.Error}
	var words []string
	for _, n := range numbers {
		words = append(words, strconv.Itoa(n))
	}
	return strings.Join(words, " ")
}

// ParseState returns the state with a text.
func ParseState(s string) (api.OrbitState, api.Errno) {
	words := strings.Split(s, " ")
	if len(words) != stateNumbers {
		return api.OrbitState{}, api.ErrSyntax
	}
	var numbers [stateNumbers]int
	for i, text := range words {
		n, ok := readNumber(text)
		if !ok {
			return api.OrbitState{}, api.ErrSyntax
		}
		numbers[i] = n
	}
	state := stateOf(numbers)
	if e := stateError(state); e != api.OK {
		return api.OrbitState{}, e
	}
	return state, api.OK
}

// Print returns the text of an orbit.
func Print(o api.Orbit) (string, api.Errno) {
	if _, e := CheckOrbit(o); e != api.OK {
		return "", e
	}
	text := "orbit " + o.Name + " bend " + strconv.Itoa(o.Bend) + "\n"
	for _, s := range o.States {
		text += "state " + FormatState(s) + "\n"
	}
	return text, api.OK
}

// Parse returns the orbit with a text, or the mark of the first error.
func Parse(t string) (api.Orbit, api.TextMark, api.Errno) {
	if len(t) > api.MaxText {
		return api.Orbit{}, api.TextMark{}, api.ErrLarge
	}
	var o api.Orbit
	headed := false
	lines := linesOf(t)
	for i, line := range lines {
		words := wordsOf(line)
		if len(words) == 0 {
			continue
		}
		column, e := readLine(&o, headed, words)
		if e != api.OK {
			return api.Orbit{}, api.TextMark{Line: i + 1, Column: column}, e
		}
		headed = true
	}
	if e := endError(o, headed); e != api.OK {
		return api.Orbit{}, api.TextMark{Line: len(lines) + 1, Column: 1}, e
	}
	return o, api.TextMark{}, api.OK
}

// linesOf returns the lines of a text. An empty rest behind the last line feed is none.
func linesOf(t string) []string {
	lines := strings.Split(t, "\n")
	if last := len(lines) - 1; lines[last] == "" {
		lines = lines[:last]
	}
	return lines
}

func wordsOf(line string) []word {
	line, _, _ = strings.Cut(line, ";")
	var words []word
	for i := 0; i < len(line); i++ {
		start := i
		for i < len(line) && !isBlank(line[i]) {
			i++
		}
		if i > start {
			words = append(words, word{text: line[start:i], column: start + 1})
		}
	}
	return words
}

func isBlank(c byte) bool { return c == ' ' || c == '\t' }

// readLine adds to an orbit what a line says, or returns the column of its first error.
func readLine(o *api.Orbit, headed bool, words []word) (int, api.Errno) {
	if !headed {
		return readHead(o, words)
	}
	return readState(o, words)
}

func readHead(o *api.Orbit, words []word) (int, api.Errno) {
	if column, e := formError(words, "orbit", aName, "bend", aNumber); e != api.OK {
		return column, e
	}
	bend, _ := readNumber(words[3].text)
	if e := bendError(bend); e != api.OK {
		return words[3].column, e
	}
	o.Name, o.Bend = words[1].text, bend
	return 0, api.OK
}

func readState(o *api.Orbit, words []word) (int, api.Errno) {
	if column, e := formError(words, "state", aNumber, aNumber, aNumber, aNumber, aNumber); e != api.OK {
		return column, e
	}
	if len(o.States) >= api.MaxStates {
		return words[0].column, api.ErrLarge
	}
	var numbers [stateNumbers]int
	for i := range numbers {
		numbers[i], _ = readNumber(words[i+1].text)
	}
	s := stateOf(numbers)
	for i, e := range numberErrors(o.States, s) {
		if e != api.OK {
			return words[i+1].column, e
		}
	}
	o.States = append(o.States, s)
	return 0, api.OK
}

// numberErrors returns the errors of a state behind those before it, number by number.
func numberErrors(before []api.OrbitState, s api.OrbitState) [stateNumbers]api.Errno {
	return [stateNumbers]api.Errno{
		firstError(rangeError(s.Tick, 0, api.MaxTick), orderError(before, s.Tick)),
		coordinateError(s.At.X),
		coordinateError(s.At.Y),
		coordinateError(s.At.Z),
		rangeError(s.Error, 0, api.MaxOrbitError),
	}
}

func stateOf(numbers [stateNumbers]int) api.OrbitState {
	at := api.Place{X: numbers[1], Y: numbers[2], Z: numbers[3]}
	return api.OrbitState{Tick: numbers[0], At: at, Error: numbers[4]}
}

// formError returns the first error of the words of a line that should have a form, and its column.
func formError(words []word, form ...string) (int, api.Errno) {
	for i, f := range form {
		if i >= len(words) {
			last := words[len(words)-1]
			return last.column + len(last.text), api.ErrMissing
		}
		if e := wordError(words[i].text, f); e != api.OK {
			return words[i].column, e
		}
	}
	if len(words) > len(form) {
		return words[len(form)].column, api.ErrSyntax
	}
	return 0, api.OK
}

func wordError(text, form string) api.Errno {
	right := text == form
	switch form {
	case aName:
		return nameError(text)
	case aNumber:
		_, right = readNumber(text)
	}
	if !right {
		return api.ErrSyntax
	}
	return api.OK
}

// readNumber takes a word only if the number is written in no other way: this leaves out "+1", "01" and "-0".
func readNumber(text string) (int, bool) {
	n, err := strconv.Atoi(text)
	if err != nil || n < -mostNumber || n > mostNumber || strconv.Itoa(n) != text {
		return 0, false
	}
	return n, true
}

// endError is the error of an orbit behind the last line.
func endError(o api.Orbit, headed bool) api.Errno {
	if !headed {
		return api.ErrMissing
	}
	if len(o.States) < leastStates {
		return api.ErrShape
	}
	return api.OK
}
