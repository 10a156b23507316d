package unwrap_test

import (
	"math"
	"strconv"
	"strings"
	"testing"

	"swath/api"
	"swath/unwrap"
)

func TestP5_1FormatNet(t *testing.T) {
	for text, n := range map[string]api.UnwrapNet{
		"3 0 1 1 5 1 2 0 3 2 0 0 2": net(3, 0, 1, 1, 5, 1, 2, 0, 3, 2, 0, 0, 2),
		"0":                         {},
		"200":                       net(200),
		"2 0 1 -1000 1000":          net(2, 0, 1, -1000, 1000),
		"-7 -1 5 2000 -3":           net(-7, -1, 5, 2000, -3),
		"12345678 0 0 0 0":          net(12345678, 0, 0, 0, 0),
		"-9223372036854775808 9223372036854775807 0 -9223372036854775808 1": net(math.MinInt, math.MaxInt, 0, math.MinInt, 1),
	} {
		if got := unwrap.FormatNet(n); got != text {
			t.Errorf("%q, want %q", got, text)
		}
	}
	many := api.UnwrapNet{Nodes: 1}
	for range 700 {
		many.Edges = append(many.Edges, api.UnwrapEdge{From: 1, To: 2, Jump: 3, Weight: 4})
	}
	if got := unwrap.FormatNet(many); got != "1"+strings.Repeat(" 1 2 3 4", 700) {
		t.Error("700 edges:", got)
	}
}

func TestP5_1ParseNet(t *testing.T) {
	for text, n := range map[string]api.UnwrapNet{
		"3 0 1 1 5 1 2 0 3 2 0 0 2":           net(3, 0, 1, 1, 5, 1, 2, 0, 3, 2, 0, 0, 2),
		"0":                                   {},
		"200":                                 net(200),
		"2 0 1 -1000 1000":                    net(2, 0, 1, -1000, 1000),
		"200 199 0 0 0":                       net(200, 199, 0, 0, 0),
		"2" + strings.Repeat(" 0 1 2 3", 600): {Nodes: 2, Edges: api600()},
	} {
		got, e := unwrap.ParseNet(text)
		want(t, text, got, e, n, api.OK)
	}
}

func api600() []api.UnwrapEdge {
	var edges []api.UnwrapEdge
	for range 600 {
		edges = append(edges, api.UnwrapEdge{From: 0, To: 1, Jump: 2, Weight: 3})
	}
	return edges
}

func TestP5_1ParseNetSyntax(t *testing.T) {
	texts := []string{
		"", " ", "\n", "3\n", "3 ", " 3", "3  0 1 1 5", "3 0 1 1 5 ", "3 0 1 1 5\n", "3 0 1 1\t5", "3\t0 1 1 5", "3\n0 1 1 5", "3,0,1,1,5", "\ufeff3", "3\x00", "3 0 1 1 5\r",
		"3 0", "3 0 1", "3 0 1 1", "3 0 1 1 5 0", "3 0 1 1 5 1 2", "3 0 1 1 5 1 2 0", "201 0", "-1 0 1", "net 3", "3 net",
	}
	for _, word := range []string{"+1", "-0", "00", "01", "-01", "-", "--1", "1.0", "1e1", "0x1", "1_0", "10000000", "-10000000", "12345678", "00000001", "99999999999999999999", "*", "\u0661", "\xff", "x", "'1'", ""} {
		texts = append(texts, word, word+" 0 1 1 5", "3 "+word+" 1 1 5", "3 0 "+word+" 1 5", "3 0 1 "+word+" 5", "3 0 1 1 "+word, "3 0 1 1 5 1 2 0 "+word, "201 0 1 1 "+word)
	}
	for _, text := range texts {
		got, e := unwrap.ParseNet(text)
		want(t, strconv.Quote(text), got, e, api.UnwrapNet{}, api.ErrSyntax)
	}
}

func TestP5_1ParseNetErrors(t *testing.T) {
	for text, e := range map[string]api.Errno{
		"-1":                                  api.ErrRange,
		"201":                                 api.ErrRange,
		"9999999":                             api.ErrRange,
		"-9999999":                            api.ErrRange,
		"201 5 5 5000 -1":                     api.ErrRange,
		"2 0 2 0 1":                           api.ErrMissing,
		"2 -1 0 0 1":                          api.ErrMissing,
		"2 9999999 0 0 1":                     api.ErrMissing,
		"0 0 1 0 1":                           api.ErrMissing,
		"2 1 1 0 1":                           api.ErrForm,
		"2 0 1 1001 1":                        api.ErrRange,
		"2 0 1 -1001 1":                       api.ErrRange,
		"2 0 1 -9999999 1":                    api.ErrRange,
		"2 0 1 0 1001":                        api.ErrRange,
		"2 0 1 0 -1":                          api.ErrRange,
		"2 0 1 0 9999999":                     api.ErrRange,
		"2 0 1 0 1 1 1 0 1":                   api.ErrForm,
		"2" + strings.Repeat(" 0 1 2 3", 601): api.ErrLarge,
		"1" + strings.Repeat(" 0 1 2 3", 601): api.ErrLarge,
	} {
		got, f := unwrap.ParseNet(text)
		want(t, text, got, f, api.UnwrapNet{}, e)
	}
}

func TestP5_12ParseNetUndoesFormatNet(t *testing.T) {
	r := numbers{28}
	for range 200 {
		n := r.net(2+r.below(199), r.below(601), 1000, 1000)
		got, e := unwrap.ParseNet(unwrap.FormatNet(n))
		want(t, "a right net", got, e, n, api.OK)
	}
	for what, x := range wrongNets() {
		got, e := unwrap.ParseNet(unwrap.FormatNet(x.x))
		if e != api.ErrSyntax { // numbers of more than 7 digits
			want(t, what, got, e, api.UnwrapNet{}, x.e)
		}
	}
}
