package orbit_test

import (
	"strconv"
	"strings"
	"testing"

	"swath/api"
	"swath/orbit"
)

const (
	head = "orbit p bend 2\n"
	two  = "state 0 0 0 100 1\nstate 10 50 20 100 3\n"
)

func TestP2_7Print(t *testing.T) {
	s, e := orbit.Print(example())
	want(t, "example 7", s, e, head+two, api.OK)
	s, e = orbit.Print(api.Orbit{Name: "A-1", Bend: 0, States: []api.OrbitState{at(7, -1, -20, 0, 0), at(8, 100000000, 0, -100000000, 100000)}})
	want(t, "numbers below 0", s, e, "orbit A-1 bend 0\nstate 7 -1 -20 0 0\nstate 8 100000000 0 -100000000 100000\n", api.OK)
	for what, x := range wrongOrbits() {
		s, e := orbit.Print(x.o)
		want(t, what, s, e, "", x.e)
	}
}

func TestP2_7Parse(t *testing.T) {
	for _, s := range []string{
		head + two,
		strings.TrimSuffix(head+two, "\n"),
		"\n \n\t\n;\n ; orbit q\n" + head + "\n;state\n" + two + "\n\n  ;",
		"  orbit\tp \t bend   2\t\nstate 0 0\t0 100 1 \n state 10 50 20 100 3",
		"orbit p bend 2;x\nstate 0 0 0 100 1;\nstate 10 50 20 100 3;;4\n",
		head + two + strings.Repeat(";", 60000-len(head+two)),
	} {
		o, mark, e := orbit.Parse(s)
		want(t, strconv.Quote(s), o, e, example(), api.OK)
		want(t, strconv.Quote(s), mark, e, api.TextMark{}, api.OK)
	}
}

type wrongText struct {
	s            string
	line, column int
	e            api.Errno
}

func checkWrong(t *testing.T, l []wrongText) {
	t.Helper()
	for _, x := range l {
		o, mark, e := orbit.Parse(x.s)
		want(t, strconv.Quote(x.s), o, e, api.Orbit{}, x.e)
		want(t, strconv.Quote(x.s), mark, e, api.TextMark{Line: x.line, Column: x.column}, x.e)
	}
}

func TestP2_7ParseHead(t *testing.T) {
	checkWrong(t, []wrongText{
		{"state 0 0 0 100 1\n" + head, 1, 1, api.ErrSyntax},
		{"Orbit p bend 2\n" + two, 1, 1, api.ErrSyntax},
		{"\n;\n \torbits p bend 2\n" + two, 3, 3, api.ErrSyntax},
		{"x", 1, 1, api.ErrSyntax},
		{"orbit", 1, 6, api.ErrMissing},
		{"orbit p\n", 1, 8, api.ErrMissing},
		{"  orbit  p \t ; bend 2\n" + two, 1, 11, api.ErrMissing},
		{"orbit p;bend 2\n" + two, 1, 8, api.ErrMissing},
		{"orbit p bend\n" + two, 1, 13, api.ErrMissing},
		{"orbit 1p\n" + two, 1, 7, api.ErrName},
		{"orbit  abcdefghijklm bind\n" + two, 1, 8, api.ErrName},
		{"orbit p_q bend 2\n" + two, 1, 7, api.ErrName},
		{"orbit p\u00e9 bend 2\n" + two, 1, 7, api.ErrName},
		{"orbit p bind x\n" + two, 1, 9, api.ErrSyntax},
		{"orbit p 2 bend\n" + two, 1, 9, api.ErrSyntax},
		{"orbit p bend x\n" + two, 1, 14, api.ErrSyntax},
		{"orbit p bend +2\n" + two, 1, 14, api.ErrSyntax},
		{"orbit p bend -0\n" + two, 1, 14, api.ErrSyntax},
		{"orbit p bend 02\n" + two, 1, 14, api.ErrSyntax},
		{"orbit p bend 2\r\n" + two, 1, 14, api.ErrSyntax},
		{"orbit p bend 12345678901\n" + two, 1, 14, api.ErrSyntax},
		{"orbit p bend 2 3\n" + two, 1, 16, api.ErrSyntax},
		{"orbit p bend -1 3\n" + two, 1, 17, api.ErrSyntax},
		{"orbit p bend -1\n" + two, 1, 14, api.ErrRange},
		{"orbit p  bend  100001 \n" + two, 1, 16, api.ErrRange},
		{"orbit p bend 9999999999\n" + two, 1, 14, api.ErrRange},
		{"orbit p bend 2\v\n" + two, 1, 14, api.ErrSyntax},
	})
}

func TestP2_7ParseStates(t *testing.T) {
	behind := func(line string) string { return head + two + line + "\n" }
	checkWrong(t, []wrongText{
		{head + head + two, 2, 1, api.ErrSyntax},
		{head + two + " orbit q bend 1\n", 4, 2, api.ErrSyntax},
		{head + "0 0 0 100 1\n", 2, 1, api.ErrSyntax},
		{behind("states 11 0 0 0 0"), 4, 1, api.ErrSyntax},
		{behind("state"), 4, 6, api.ErrMissing},
		{behind("\tstate 11 0 0 0 \t;1"), 4, 16, api.ErrMissing},
		{behind("state 9 x 0 0"), 4, 9, api.ErrSyntax},
		{behind("state 9 0 0 y z"), 4, 13, api.ErrSyntax},
		{behind("state p 0 0 0 0"), 4, 7, api.ErrSyntax},
		{behind("state 11 0 0 0 -"), 4, 16, api.ErrSyntax},
		{behind("state 11 0 00 0 1"), 4, 12, api.ErrSyntax},
		{behind("state 11 0 0 0 1 ; 1") + "state 12 0 0 0 1 2 3\n", 5, 18, api.ErrSyntax},
		{behind("state 9 0 0 0 0 x"), 4, 17, api.ErrSyntax},
		{behind("state -1 100000001 0 0 0"), 4, 7, api.ErrRange},
		{behind("state  1000000001 0 0 0 0"), 4, 8, api.ErrRange},
		{behind("state 10 100000001 0 0 0"), 4, 7, api.ErrOrder},
		{behind("state 0 0 0 0 0"), 4, 7, api.ErrOrder},
		{behind("state 20001 100000001 0 0 0"), 4, 7, api.ErrLarge},
		{behind("state 11 100000001 -100000001 0 -1"), 4, 10, api.ErrRange},
		{behind("state 11 0 -100000001 100000001 -1"), 4, 12, api.ErrRange},
		{behind("state 11 0 0 9999999999 -1"), 4, 14, api.ErrRange},
		{behind("state 11 0 0 0 -1"), 4, 16, api.ErrRange},
		{behind("state 11 0 0 0 100001"), 4, 16, api.ErrRange},
		{head + "state 5 0 0 0 0\nstate 5 0 0 0 0\nx\n", 3, 7, api.ErrOrder},
	})
	o, mark, e := orbit.Parse(behind("state 20000 -100000000 100000000 0 100000"))
	want(t, "the last tick", o, e, orbitOf(2, append(example().States, at(20000, -100000000, 100000000, 0, 100000))...), api.OK)
	want(t, "the last tick", mark, e, api.TextMark{}, api.OK)
	o, mark, e = orbit.Parse("orbit p bend 0 state 0 0 0 0 0\nstate 1000000000 0 0 0 0\n")
	want(t, "two lines in one", o, e, api.Orbit{}, api.ErrSyntax)
	want(t, "two lines in one", mark, e, api.TextMark{Line: 1, Column: 16}, api.ErrSyntax)
	o, mark, e = orbit.Parse("orbit p bend 0\nstate 999999999 0 0 0 0\nstate 1000000000 0 0 0 0\n")
	want(t, "late states", o, e, orbitOf(0, at(999999999, 0, 0, 0, 0), at(1000000000, 0, 0, 0, 0)), api.OK)
	want(t, "late states", mark, e, api.TextMark{}, api.OK)
}

func TestP2_7ParseManyStates(t *testing.T) {
	many := orbitOf(2)
	text := head
	for i := range api.MaxStates {
		many.States = append(many.States, at(i, i, 0, 0, 0))
		text += "state " + orbit.FormatState(many.States[i]) + "\n"
	}
	o, mark, e := orbit.Parse(text)
	want(t, "40 states", o, e, many, api.OK)
	want(t, "40 states", mark, e, api.TextMark{}, api.OK)
	checkWrong(t, []wrongText{
		{text + "\n state 40 0 0 0 0\n", 43, 2, api.ErrLarge},
		{text + "state -1 0 0 0 -1\n", 42, 1, api.ErrLarge},
		{text + "state 40 0 0 0 0 0\n", 42, 18, api.ErrSyntax},
		{text + "state 40 0 0 0\n", 42, 15, api.ErrMissing},
		{text + "states\n", 42, 1, api.ErrSyntax},
	})
}

func TestP2_7ParseEnds(t *testing.T) {
	checkWrong(t, []wrongText{
		{"", 1, 1, api.ErrMissing},
		{"\n", 2, 1, api.ErrMissing},
		{" ", 2, 1, api.ErrMissing},
		{"\n\n;orbit p", 4, 1, api.ErrMissing},
		{"\n\n;orbit p\n", 4, 1, api.ErrMissing},
		{head, 2, 1, api.ErrShape},
		{"orbit p bend 2", 2, 1, api.ErrShape},
		{head + "state 0 0 0 100 1\n", 3, 1, api.ErrShape},
		{head + "state 0 0 0 100 1", 3, 1, api.ErrShape},
		{head + "state 0 0 0 100 1\n\n \n", 5, 1, api.ErrShape},
		{head + "state 0 0 0 100 1\n\n ", 5, 1, api.ErrShape},
		{strings.Repeat("\n", 60000), 60001, 1, api.ErrMissing},
		{strings.Repeat("x", 60000), 1, 1, api.ErrSyntax},
		{"orbit " + strings.Repeat("x", 59994), 1, 7, api.ErrName},
		{"orbit p bend " + strings.Repeat("9", 59987), 1, 14, api.ErrSyntax},
		{strings.Repeat("x", 60001), 0, 0, api.ErrLarge},
		{strings.Repeat("\n", 60001), 0, 0, api.ErrLarge},
		{head + two + strings.Repeat(";", 60001-len(head+two)), 0, 0, api.ErrLarge},
	})
}

// P2.10: Parse undoes Print, ParseState FormatState.
func TestP2_10ParseUndoesPrint(t *testing.T) {
	for _, o := range append(orbits(), greatOrbit()) {
		s, e := orbit.Print(o)
		if e != api.OK {
			t.Fatal("Print:", e)
		}
		back, mark, e := orbit.Parse(s)
		want(t, "Parse of Print", back, e, o, api.OK)
		want(t, "Parse of Print", mark, e, api.TextMark{}, api.OK)
		for _, state := range o.States {
			back, e := orbit.ParseState(orbit.FormatState(state))
			want(t, "ParseState of FormatState", back, e, state, api.OK)
		}
	}
}
