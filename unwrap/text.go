package unwrap

import (
	"strconv"
	"strings"

	"swath/api"
)

const mostNumber = 9999999 // numbers in texts have at most 7 digits

// FormatNet returns the text of a net.
func FormatNet(n api.UnwrapNet) string {
	words := []string{strconv.Itoa(n.Nodes)}
	for _, edge := range n.Edges {
		for _, number := range []int{edge.From, edge.To, edge.Jump, edge.Weight} {
			words = append(words, strconv.Itoa(number))
		}
	}
	return strings.Join(words, " ")
}

// ParseNet returns the net with a text.
func ParseNet(s string) (api.UnwrapNet, api.Errno) {
	numbers := readNumbers(s)
	if len(numbers)%4 != 1 {
		return api.UnwrapNet{}, api.ErrSyntax
	}
	n := api.UnwrapNet{Nodes: numbers[0]}
	for i := 1; i < len(numbers); i += 4 {
		n.Edges = append(n.Edges, api.UnwrapEdge{From: numbers[i], To: numbers[i+1], Jump: numbers[i+2], Weight: numbers[i+3]})
	}
	if e := netError(n); e != api.OK {
		return api.UnwrapNet{}, e
	}
	return n, api.OK
}

// readNumbers returns no numbers if there is a word that is none.
func readNumbers(s string) []int {
	var numbers []int
	for _, word := range strings.Split(s, " ") {
		n, read := readNumber(word)
		if !read {
			return nil
		}
		numbers = append(numbers, n)
	}
	return numbers
}

// readNumber takes a word only if the number is written in no other way: this leaves out "+1", "01" and "-0".
func readNumber(word string) (int, bool) {
	n, err := strconv.Atoi(word)
	if err != nil || n < -mostNumber || n > mostNumber || strconv.Itoa(n) != word {
		return 0, false
	}
	return n, true
}
