package fringe_test

import (
	"strconv"
	"strings"
	"testing"

	"swath/api"
	"swath/fringe"
)

func TestP4_7Print(t *testing.T) {
	for right, m := range map[string]api.PhaseMap{
		"phases 1 2\n5 *\n":                           phases(1, 5, void),
		"phases 1 1\n*\n":                             phases(1, void),
		"phases 1 1\n0\n":                             phases(1, 0),
		"phases 2 3\n1 -2 3\n* 4096 -100000000\n":     phases(2, 1, -2, 3, void, 4096, -100000000),
		"phases 3 1\n100000000\n-2048\n2047\n":        phases(3, 100000000, -2048, 2047),
		"phases 2 2\n* *\n* *\n":                      phases(2, void, void, void, void),
		"phases 1 12\n0 1 2 3 4 5 6 7 8 9 10 -11\n":   phases(1, 0, 1, 2, 3, 4, 5, 6, 7, 8, 9, 10, -11),
		"phases 10 1\n0\n0\n0\n0\n0\n0\n0\n0\n0\n1\n": phases(10, 0, 0, 0, 0, 0, 0, 0, 0, 0, 1),
	} {
		s, e := fringe.Print(m)
		want(t, "Print", s, e, right, api.OK)
	}
}

func TestP4_7Parse(t *testing.T) {
	for s, right := range map[string]api.PhaseMap{
		"phases 1 2\n5 *\n":                       phases(1, 5, void),
		"phases 1 1\n*\n":                         phases(1, void),
		"phases 2 3\n1 -2 3\n* 4096 -100000000\n": phases(2, 1, -2, 3, void, 4096, -100000000),
		"phases 2 1\n100000000\n0\n":              phases(2, 100000000, 0),
	} {
		m, n, e := fringe.Parse(s)
		want(t, s, m, e, right, api.OK)
		want(t, s, n, e, 0, api.OK)
	}
}

func TestP4_7ParseSyntax(t *testing.T) {
	texts := map[string]int{
		"":                                  1,
		"\n":                                1,
		"phases":                            1,
		"phases\n":                          1,
		"phases \n":                         1,
		"phases 1\n5\n":                     1,
		"phases 1 2 3\n5 *\n":               1,
		"phases 1 2":                        1,
		" phases 1 2\n5 *\n":                1,
		"phases 1 2 \n5 *\n":                1,
		"phases  1 2\n5 *\n":                1,
		"phases 1  2\n5 *\n":                1,
		"phases\t1 2\n5 *\n":                1,
		"Phases 1 2\n5 *\n":                 1,
		"phase 1 2\n5 *\n":                  1,
		"phasess 1 2\n5 *\n":                1,
		"phases1 2\n5 *\n":                  1,
		"1 2\n5 *\n":                        1,
		"5 *\n":                             1,
		"*\n":                               1,
		"phases * 2\n5 *\n":                 1,
		"phases 1 *\n5 *\n":                 1,
		"phases 1 2\r\n5 *\n":               1,
		"phases 1 2000000000\n5 *\n":        1,
		"\nphases 1 2\n5 *\n":               1,
		"\xef\xbb\xbfphases 1 2\n5 *\n":     1,
		"phases 1 2\n5 *":                   2,
		"phases 1 2\n5 *\x00":               2,
		"phases 1 2\n\n":                    2,
		"phases 1 2\n \n":                   2,
		"phases 1 2\n5  *\n":                2,
		"phases 1 2\n 5 *\n":                2,
		"phases 1 2\n5 * \n":                2,
		"phases 1 2\n5\t*\n":                2,
		"phases 1 2\n5 *\r\n":               2,
		"phases 1 2\nphases 1 2\n":          2,
		"phases 1 2\n5 *\n\n":               3,
		"phases 1 2\n5 *\n ":                3,
		"phases 1 2\n5 *\n5":                3,
		"phases 9 9\n1\n1 * 1\n1\n1 x\ny\n": 5,
		"phases 1 1\nx\ny":                  2,
	}
	for _, word := range []string{"+1", "-0", "00", "01", "-01", "-", "--1", "1.0", "1e1", "0x1", "1_0", "1000000000", "-1000000000", "0000000001", "99999999999999999999", "1000000000000", "**", "-*", "*1", "\u0661", "\xff", "5\xff", "x", "'1'", ""} {
		texts["phases "+word+" 2\n5 *\n"] = 1
		texts["phases 1 "+word+"\n5 *\n"] = 1
		texts["phases 1 2\n"+word+" *\n"] = 2
		texts["phases 1 2\n5 "+word+"\n"] = 2
		texts["phases 2 2\n5 *\n5 "+word+"\n"] = 3
	}
	for s, line := range texts {
		m, n, e := fringe.Parse(s)
		want(t, strconv.Quote(s), m, e, api.PhaseMap{}, api.ErrSyntax)
		want(t, strconv.Quote(s), n, e, line, api.ErrSyntax)
	}
}

func TestP4_7ParseErrors(t *testing.T) {
	rows65, columns65 := strings.Repeat("0\n", 65), strings.Repeat("0 ", 64)+"0\n"
	for what, x := range map[string]struct {
		s string
		e api.Errno
	}{
		"no row":                    {"phases 1 2\n", api.ErrShape},
		"a row more":                {"phases 1 2\n5 *\n0 0\n", api.ErrShape},
		"a row less":                {"phases 2 2\n5 *\n", api.ErrShape},
		"rows below 0":              {"phases -1 2\n", api.ErrShape},
		"a word less":               {"phases 1 2\n5\n", api.ErrShape},
		"a word more":               {"phases 1 2\n5 * *\n", api.ErrShape},
		"a word less in the second": {"phases 2 2\n5 5\n5\n", api.ErrShape},
		"as many words":             {"phases 2 2\n5 5 5\n5\n", api.ErrShape},
		"as many words in a row":    {"phases 2 2\n5 5 5 5\n", api.ErrShape},
		"columns below 0":           {"phases 1 -1\n5\n", api.ErrShape},
		"no columns":                {"phases 1 0\n5\n", api.ErrShape},
		"many rows":                 {"phases 999999999 1\n5\n", api.ErrShape},
		"many rows and columns":     {"phases 999999999 999999999\n5\n", api.ErrShape},
		"a great phase, and shape":  {"phases 1 2\n999999999\n", api.ErrShape},
		"no rows":                   {"phases 0 1\n", api.ErrRange},
		"no map":                    {"phases 0 0\n", api.ErrRange},
		"no rows, but columns":      {"phases 0 -5\n", api.ErrRange},
		"65 rows":                   {"phases 65 1\n" + rows65, api.ErrRange},
		"65 columns":                {"phases 1 65\n" + columns65, api.ErrRange},
		"a great phase":             {"phases 1 1\n100000001\n", api.ErrRange},
		"a great phase below 0":     {"phases 1 2\n* -100000001\n", api.ErrRange},
		"nine digits":               {"phases 1 1\n999999999\n", api.ErrRange},
		"nine digits below 0":       {"phases 1 1\n-999999999\n", api.ErrRange},
		"a text that is too long":   {strings.Repeat("x", 60001), api.ErrLarge},
		"a long text that ends":     {"phases 1 2\n5 *\n" + strings.Repeat("\n", 60000), api.ErrLarge},
	} {
		m, n, e := fringe.Parse(x.s)
		want(t, what, m, e, api.PhaseMap{}, x.e)
		want(t, what, n, e, 0, x.e)
	}
	for what, x := range map[string]struct {
		s    string
		line int
		e    api.Errno
	}{
		"a text as long as may be":       {strings.Repeat("x", 60000), 1, api.ErrSyntax},
		"one with many lines":            {"phases 1 1\n" + strings.Repeat("1\n", 29994) + "x", 29996, api.ErrSyntax},
		"many lines of another shape":    {"phases 1 1\n*" + strings.Repeat("\n1", 29993) + "0\n", 0, api.ErrShape},
		"a long row of another shape":    {"phases 1 1\n*" + strings.Repeat(" *", 29993) + "\n", 0, api.ErrShape},
		"a long row with a blank behind": {"phases 1 1\n*" + strings.Repeat(" *", 29993) + " \n", 2, api.ErrSyntax},
	} {
		m, n, e := fringe.Parse(x.s)
		want(t, what, m, e, api.PhaseMap{}, x.e)
		want(t, what, n, e, x.line, x.e)
	}
}

// P4.11: Parse undoes Print, of the longest text, too.
func TestP4_11ParseUndoesPrint(t *testing.T) {
	r := numbers{91}
	longest := api.PhaseMap{Rows: 64, Columns: 64}
	for range 4096 {
		longest.Phases = append(longest.Phases, -100000000)
	}
	maps := []api.PhaseMap{longest}
	for _, size := range sizes() {
		for _, holes := range []int{0, 1, 3} {
			maps = append(maps, r.phases(size[0], size[1], api.MaxPhase, holes), r.phases(size[0], size[1], 2048, holes))
		}
	}
	for _, m := range maps {
		s, e := fringe.Print(m)
		if e != api.OK {
			t.Fatal("Print:", e)
		}
		back, n, e := fringe.Parse(s)
		want(t, "Parse of Print", back, e, m, api.OK)
		want(t, "Parse of Print", n, e, 0, api.OK)
		again, e := fringe.Print(back)
		want(t, "Print of Parse", again, e, s, api.OK)
	}
}
