package echo

import (
	"strconv"
	"strings"

	"swath/api"
)

const (
	mostNumber   = 9999999 // numbers in texts have at most 7 digits
	checkFactor  = 31
	checkModulus = 65521
)

// Print returns the text of an image.
func Print(im api.RadarImage) (string, api.Errno) {
	if _, e := CheckImage(im); e != api.OK {
		return "", e
	}
	text := "image " + joined(im.Lines, im.Samples, checkOf(im)) + "\n"
	for l := range im.Lines {
		var parts []int
		for _, z := range im.Data[l*im.Samples : (l+1)*im.Samples] {
			parts = append(parts, int(real(z)), int(imag(z)))
		}
		text += joined(parts...) + "\n"
	}
	return text, api.OK
}

// Parse returns the image with a text, or the number of the first line of another form.
func Parse(s string) (api.RadarImage, int, api.Errno) {
	if len(s) > api.MaxText {
		return api.RadarImage{}, 0, api.ErrLarge
	}
	rows, wrong := readRows(s)
	if wrong > 0 {
		return api.RadarImage{}, wrong, api.ErrSyntax
	}
	im, e := imageOf(rows[0], rows[1:])
	if e != api.OK {
		return api.RadarImage{}, 0, e
	}
	if rows[0][2] != checkOf(im) {
		return api.RadarImage{}, 0, api.ErrSum
	}
	return im, 0, api.OK
}

func joined(numbers ...int) string {
	words := make([]string, len(numbers))
	for i, n := range numbers {
		words[i] = strconv.Itoa(n)
	}
	return strings.Join(words, " ")
}

func checkOf(im api.RadarImage) int {
	check := 0
	for _, z := range im.Data {
		check = checkWith(checkWith(check, real(z)), imag(z))
	}
	return check
}

// checkWith adds 2048 to a part, so that nothing below 0 is divided.
func checkWith(check int, part float32) int {
	return (checkFactor*check + int(part) + api.MaxSample + 1) % checkModulus
}

// readRows returns the numbers of each line, the first line's without its word, and the number of the first wrong line,
// 0 if there is none.
func readRows(s string) ([][]int, int) {
	var rows [][]int
	for line := 1; line == 1 || s != ""; line++ {
		text, rest, ended := strings.Cut(s, "\n")
		headed := true
		if line == 1 {
			text, headed = strings.CutPrefix(text, "image ")
		}
		row, read := readNumbers(text)
		if !ended || !headed || !read || line == 1 && len(row) != 3 {
			return nil, line
		}
		rows = append(rows, row)
		s = rest
	}
	return rows, 0
}

func readNumbers(text string) ([]int, bool) {
	var row []int
	for _, word := range strings.Split(text, " ") {
		n, ok := readNumber(word)
		if !ok {
			return nil, false
		}
		row = append(row, n)
	}
	return row, true
}

// readNumber takes a word only if the number is written in no other way: this leaves out "+1", "01" and "-0".
func readNumber(word string) (int, bool) {
	n, err := strconv.Atoi(word)
	if err != nil || isBeyond(n, mostNumber) || strconv.Itoa(n) != word {
		return 0, false
	}
	return n, true
}

// imageOf returns the image of a size with such rows. The rows are counted first, as the head may tell any size.
func imageOf(head []int, rows [][]int) (api.RadarImage, api.Errno) {
	im := api.RadarImage{Lines: head[0], Samples: head[1]}
	if len(rows) != im.Lines {
		return api.RadarImage{}, api.ErrShape
	}
	for _, row := range rows {
		if len(row) != 2*im.Samples {
			return api.RadarImage{}, api.ErrShape
		}
		for s := range im.Samples {
			im.Data = append(im.Data, complex(float32(row[2*s]), float32(row[2*s+1])))
		}
	}
	if _, e := CheckImage(im); e != api.OK {
		return api.RadarImage{}, e
	}
	return im, api.OK
}
