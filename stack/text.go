package stack

import (
	"strconv"
	"strings"

	"swath/api"
)

const (
	mostNumber = 9999999 // numbers in texts have at most 7 digits
	sceneWord  = "scene"
	pairWord   = "pair"
)

// Print returns the text of a stack.
func Print(s api.StackNet) (string, api.Errno) {
	if _, e := CheckNet(s); e != api.OK {
		return "", e
	}
	text := ""
	for _, scene := range s.Scenes {
		text += lineOf(sceneWord+" "+scene.Name, scene.Day, scene.Baseline)
	}
	for _, pair := range s.Pairs {
		text += lineOf(pairWord, pair.First, pair.Second)
	}
	return text, api.OK
}

// Parse returns the stack with a text, or the number of the first line of another form.
func Parse(t string) (api.StackNet, int, api.Errno) {
	if len(t) > api.MaxText {
		return api.StackNet{}, 0, api.ErrLarge
	}
	s, wrong := readNet(t)
	if wrong > 0 {
		return api.StackNet{}, wrong, api.ErrSyntax
	}
	if _, e := CheckNet(s); e != api.OK {
		return api.StackNet{}, 0, e
	}
	return s, 0, api.OK
}

func lineOf(words string, numbers ...int) string {
	for _, n := range numbers {
		words += " " + strconv.Itoa(n)
	}
	return words + "\n"
}

// readNet returns the stack of all lines, and the number of the first wrong line, 0 if there is none.
func readNet(t string) (api.StackNet, int) {
	var s api.StackNet
	for line := 1; t != ""; line++ {
		text, rest, ended := strings.Cut(t, "\n")
		if !ended || !readLine(text, &s) {
			return api.StackNet{}, line
		}
		t = rest
	}
	return s, 0
}

// readLine adds the scene or the pair of a line to a stack, and tells whether there is one.
func readLine(text string, s *api.StackNet) bool {
	words := strings.Split(text, " ")
	switch {
	case words[0] == sceneWord && len(words) == 4 && len(s.Pairs) == 0:
		day, isDay := readNumber(words[2])
		baseline, isBaseline := readNumber(words[3])
		s.Scenes = append(s.Scenes, api.StackScene{Name: words[1], Day: day, Baseline: baseline})
		return isDay && isBaseline
	case words[0] == pairWord && len(words) == 3:
		first, isFirst := readNumber(words[1])
		second, isSecond := readNumber(words[2])
		s.Pairs = append(s.Pairs, api.StackPair{First: first, Second: second})
		return isFirst && isSecond
	}
	return false
}

// readNumber takes a word only if the number is written in no other way: this leaves out "+1", "01" and "-0".
func readNumber(word string) (int, bool) {
	n, err := strconv.Atoi(word)
	if err != nil || n < -mostNumber || n > mostNumber || strconv.Itoa(n) != word {
		return 0, false
	}
	return n, true
}
