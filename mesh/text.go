package mesh

import (
	"strconv"
	"strings"

	"swath/api"
)

const (
	mostNumber   = 9999999 // numbers in texts have at most 7 digits
	pointWord    = "point"
	triangleWord = "triangle"
)

// Print returns the text of a net.
func Print(n api.MeshNet) (string, api.Errno) {
	if _, e := CheckNet(n); e != api.OK {
		return "", e
	}
	text := ""
	for _, p := range n.Points {
		text += lineOf(pointWord, p.X, p.Y)
	}
	for _, corners := range n.Triangles {
		text += lineOf(triangleWord, corners[:]...)
	}
	return text, api.OK
}

// Parse returns the net with a text, or the number of the first line of another form.
func Parse(s string) (api.MeshNet, int, api.Errno) {
	if len(s) > api.MaxText {
		return api.MeshNet{}, 0, api.ErrLarge
	}
	n, wrong := readNet(s)
	if wrong > 0 {
		return api.MeshNet{}, wrong, api.ErrSyntax
	}
	if _, e := CheckNet(n); e != api.OK {
		return api.MeshNet{}, 0, e
	}
	return n, 0, api.OK
}

func lineOf(word string, numbers ...int) string {
	for _, n := range numbers {
		word += " " + strconv.Itoa(n)
	}
	return word + "\n"
}

// readNet returns the net of all lines, and the number of the first wrong line, 0 if there is none.
func readNet(s string) (api.MeshNet, int) {
	var n api.MeshNet
	for line := 1; s != ""; line++ {
		text, rest, ended := strings.Cut(s, "\n")
		if !ended || !readLine(text, &n) {
			return api.MeshNet{}, line
		}
		s = rest
	}
	return n, 0
}

// readLine adds the point or the triangle of a line to a net, and tells whether there is one.
func readLine(text string, n *api.MeshNet) bool {
	words := strings.Split(text, " ")
	numbers, read := readNumbers(words[1:])
	switch {
	case !read:
		return false
	case words[0] == pointWord && len(numbers) == 2 && len(n.Triangles) == 0:
		n.Points = append(n.Points, api.MeshPoint{X: numbers[0], Y: numbers[1]})
	case words[0] == triangleWord && len(numbers) == 3:
		n.Triangles = append(n.Triangles, [3]int{numbers[0], numbers[1], numbers[2]})
	default:
		return false
	}
	return true
}

func readNumbers(words []string) ([]int, bool) {
	var numbers []int
	for _, word := range words {
		n, read := readNumber(word)
		if !read {
			return nil, false
		}
		numbers = append(numbers, n)
	}
	return numbers, true
}

// readNumber takes a word only if the number is written in no other way: this leaves out "+1", "01" and "-0".
func readNumber(word string) (int, bool) {
	n, err := strconv.Atoi(word)
	if err != nil || n < -mostNumber || n > mostNumber || strconv.Itoa(n) != word {
		return 0, false
	}
	return n, true
}
