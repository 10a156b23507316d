package stack_test

import (
	"fmt"
	"strings"
	"testing"

	"swath/api"
	"swath/stack"
)

const exampleText = "scene a 0 0\nscene b 12 100\nscene c 24 -50\nscene d 36 50\npair 0 1\npair 1 2\npair 0 2\npair 2 3\n"

func textOf(s api.StackNet) string {
	text := ""
	for _, scene := range s.Scenes {
		text += fmt.Sprintf("scene %s %d %d\n", scene.Name, scene.Day, scene.Baseline)
	}
	for _, pair := range s.Pairs {
		text += fmt.Sprintf("pair %d %d\n", pair.First, pair.Second)
	}
	return text
}

func TestP7_1Print(t *testing.T) {
	text, e := stack.Print(example())
	want(t, "the example", text, e, exampleText, api.OK)
	text, e = stack.Print(api.StackNet{})
	want(t, "nothing", text, e, "", api.OK)
	far := api.StackNet{Scenes: []api.StackScene{{Name: "A-0", Day: 100000, Baseline: -100000}}}
	text, e = stack.Print(far)
	want(t, "the far edge", text, e, "scene A-0 100000 -100000\n", api.OK)
	for what, s := range anyStacks() {
		text, e := stack.Print(s)
		want(t, what, text, e, textOf(s), api.OK)
	}
}

func TestP7_1Parse(t *testing.T) {
	s, line, e := stack.Parse(exampleText)
	want(t, "the example", s, e, example(), api.OK)
	want(t, "the example", line, e, 0, api.OK)
	s, line, e = stack.Parse("")
	want(t, "nothing", s, e, api.StackNet{}, api.OK)
	want(t, "nothing", line, e, 0, api.OK)
	s, _, e = stack.Parse("scene A-0 100000 -100000\n")
	want(t, "the far edge", s, e, api.StackNet{Scenes: []api.StackScene{{Name: "A-0", Day: 100000, Baseline: -100000}}}, api.OK)
}

func TestP7_1ParseSyntax(t *testing.T) {
	two := "scene a 0 0\nscene b 1 1\n"
	for s, line := range map[string]int{
		"\n": 1, "scene a 0 0": 1, two + "pair 0 1": 3, two + "\n": 3, "\n" + two: 1, exampleText + " ": 9, exampleText + "\n": 9, "wrong": 1,
		"scene a 0\n": 1, "scene a 0 0 0\n": 1, "scene a\n": 1, "scene\n": 1, "scene \n": 1, "scene  \n": 1, "scene a 0 \n": 1, "scene 0 0\n": 1,
		"scene a  0 0\n": 1, "scene a 0  0\n": 1, "scene a 0 0 \n": 1, " scene a 0 0\n": 1, "scene a b 0 0\n": 1, "scene   0 0\n": 1, "scene\ta 0 0\n": 1, "scene a 0\t0\n": 1,
		"Scene a 0 0\n": 1, "scenes a 0 0\n": 1, "a 0 0\n": 1, "scene a 0 0\r\n": 1, "scene a 0 0\x00\n": 1, "scene a b 0\n": 1, "scene a 0 b\n": 1,
		"scene a +1 0\n": 1, "scene a 01 0\n": 1, "scene a -0 0\n": 1, "scene a 0 -01\n": 1, "scene a 0 --1\n": 1, "scene a 0 -\n": 1, "scene a 0 1.0\n": 1, "scene a 0x1 0\n": 1, "scene a 1_0 0\n": 1, "scene a 1e3 0\n": 1,
		"scene a 10000000 0\n": 1, "scene a 0 10000000\n": 1, "scene a 0 -10000000\n": 1, "scene a 99999999999999999999 0\n": 1, "scene a \u0663 0\n": 1, "scene a 0 \u2212" + "1\n": 1,
		two + "pair 0\n": 3, two + "pair 0 1 0\n": 3, two + "pair\n": 3, two + "pair \n": 3, two + "pair  0 1\n": 3, two + "pair 0  1\n": 3, two + "pair 0 1 \n": 3, two + " pair 0 1\n": 3, two + "Pair 0 1\n": 3, two + "0 1\n": 3,
		two + "pair 0 01\n": 3, two + "pair 0 +1\n": 3, two + "pair -0 1\n": 3, two + "pair 0 10000000\n": 3, two + "pair a b\n": 3, two + "pair 0 1\r\n": 3, two + "pairs 0 1\n": 3, two + "pair a 0 1\n": 3,
		two + "pair 0 1\nscene c 2 2\n": 4, two + "pair 0 9\nscene c 2 2\n": 4, two + "pair 0 1\nscene c 2 2": 4, "pair 0 1\n" + two: 2, "pair 0 0\nscene  -1 0\n": 2,
		"scene a 0 0\nscene a 0 0\nwrong\n": 3, "scene 1 -1 0\n\n": 2, "scene a 0 0\nscene\nwrong\n": 2, "scene a 0 0\n\nscene b 1 1\n": 2, "scene a 100001 0\nscene b 1 1": 2,
	} {
		got, number, e := stack.Parse(s)
		wantError(t, fmt.Sprintf("%q", s), got, e, api.ErrSyntax)
		want(t, fmt.Sprintf("the line of %q", s), number, e, line, api.ErrSyntax)
	}
}

func TestP7_1ParseWrongStacks(t *testing.T) {
	two := "scene a 0 0\nscene b 1 1\n"
	for s, right := range map[string]api.Errno{
		"scene  0 0\n": api.ErrName, "scene 1 0 0\n": api.ErrName, "scene -1 0 0\n": api.ErrName, "scene abcdefghijklm 0 0\n": api.ErrName, "scene a\t 0 0\n": api.ErrName, "scene \r 0 0\n": api.ErrName,
		"scene \x00 0 0\n": api.ErrName, "scene a\xff 0 0\n": api.ErrName, "scene \u00e4 0 0\n": api.ErrName, "scene a_b 0 0\n": api.ErrName, "scene " + strings.Repeat("a", 1000) + " 0 0\n": api.ErrName,
		two + "scene a 5 5\n": api.ErrExists, "scene a -1 0\n": api.ErrRange, "scene a 100001 0\n": api.ErrRange, "scene a 9999999 0\n": api.ErrRange, "scene a -9999999 0\n": api.ErrRange, "scene a 0 100001\n": api.ErrRange, "scene a 0 -100001\n": api.ErrRange,
		"scene a 0 9999999\n": api.ErrRange, two + "scene c 0 -9999999\npair 0 9\n": api.ErrRange, "pair 0 1\n": api.ErrMissing, two + "pair 0 2\n": api.ErrMissing, two + "pair -1 1\n": api.ErrMissing, two + "pair 0 9999999\n": api.ErrMissing, two + "pair -9999999 1\n": api.ErrMissing,
		two + "pair 1 0\n": api.ErrOrder, two + "pair 1 1\n": api.ErrOrder, two + "pair 0 1\npair 0 1\n": api.ErrDouble, two + "pair 0 1\npair 1 0\npair 0 1\n": api.ErrOrder,
		two + strings.Repeat("pair 0 1\n", 200): api.ErrDouble, two + strings.Repeat("pair 0 1\n", 201): api.ErrLarge, strings.Repeat("scene a 0 0\n", 60): api.ErrExists, strings.Repeat("scene a 0 0\n", 61): api.ErrLarge,
	} {
		got, number, e := stack.Parse(s)
		wantError(t, fmt.Sprintf("%q", s), got, e, right)
		want(t, fmt.Sprintf("the line of %q", s), number, e, 0, right)
	}
}

func TestP7_1ParseOfLongTexts(t *testing.T) {
	for s, x := range map[string]struct {
		line int
		e    api.Errno
	}{
		strings.Repeat("scene a 0 0\n", 5000):                                    {0, api.ErrLarge}, // 60000 bytes: too many scenes
		strings.Repeat("scene a 0 0\n", 4999) + "scene a 0\n\n":                  {5000, api.ErrSyntax},
		strings.Repeat("scene a 0 0\n", 4999) + "scene a 0 000":                  {0, api.ErrLarge}, // 60001 bytes
		"scene " + strings.Repeat("a", 59989) + " 0 0\n":                         {0, api.ErrName},
		"scene " + strings.Repeat("a", 59990) + " 0 0\n":                         {0, api.ErrLarge},
		"\n" + "scene " + strings.Repeat("a", 59989) + " 0 0\n":                  {0, api.ErrLarge},
		strings.Repeat("x", 60000):                                               {1, api.ErrSyntax},
		strings.Repeat("x", 60001):                                               {0, api.ErrLarge},
		strings.Repeat("\n", 60001):                                              {0, api.ErrLarge},
		strings.Repeat("pair 0 1\n", 6666) + "pair\n":                            {6667, api.ErrSyntax},
		strings.Repeat("pair 0 1\n", 6666) + "scene ":                            {6667, api.ErrSyntax},
		strings.Repeat("pair 0 1\n", 6666) + "scene a":                           {0, api.ErrLarge},
		"scene " + strings.Repeat("a b", 1000) + strings.Repeat("\n", 3):         {1, api.ErrSyntax},
		"scene a 0 0\nscene b 0 0\nscene c 0 " + strings.Repeat("9", 500) + "\n": {3, api.ErrSyntax},
	} {
		got, line, e := stack.Parse(s)
		what := fmt.Sprintf("%d bytes, %q", len(s), s[len(s)-5:])
		wantError(t, what, got, e, x.e)
		want(t, what, line, e, x.line, x.e)
	}
}

func TestP7_11ParseUndoesPrint(t *testing.T) {
	for what, s := range anyStacks() {
		text, e := stack.Print(s)
		again, line, f := stack.Parse(text)
		if e != api.OK || line != 0 {
			t.Errorf("%s: error %d, line %d", what, e, line)
		}
		want(t, what, again, f, s, api.OK)
	}
}
