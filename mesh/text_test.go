package mesh_test

import (
	"fmt"
	"strings"
	"testing"

	"swath/api"
	"swath/mesh"
)

const singleText = "point 0 0\npoint 4 0\npoint 0 4\ntriangle 0 1 2\n"

func TestP6_6Print(t *testing.T) {
	text, e := mesh.Print(single().Net)
	want(t, "the example", text, e, singleText, api.OK)
	far := api.MeshNet{Points: places(-10000, 10000, -10000, -10000, 10000, 0), Triangles: triples(0, 1, 2)}
	text, e = mesh.Print(far)
	want(t, "far points", text, e, "point -10000 10000\npoint -10000 -10000\npoint 10000 0\ntriangle 0 1 2\n", api.OK)
	for what, n := range anyNets() {
		text, e := mesh.Print(n)
		want(t, what, text, e, textOf(n), api.OK)
	}
	for what, x := range wrongNets() {
		text, e := mesh.Print(x.x)
		wantError(t, what, text, e, x.e)
	}
}

func textOf(n api.MeshNet) string {
	text := ""
	for _, p := range n.Points {
		text += fmt.Sprintf("point %d %d\n", p.X, p.Y)
	}
	for _, c := range n.Triangles {
		text += fmt.Sprintf("triangle %d %d %d\n", c[0], c[1], c[2])
	}
	return text
}

func TestP6_6Parse(t *testing.T) {
	n, line, e := mesh.Parse(singleText)
	want(t, "the example", n, e, single().Net, api.OK)
	want(t, "the example", line, e, 0, api.OK)
	n, _, e = mesh.Parse(textOf(square()))
	want(t, "the first example", n, e, square(), api.OK)
}

func TestP6_6ParseErrors(t *testing.T) {
	start := "point 0 0\npoint 4 0\npoint 0 4\n"
	for s, x := range map[string]struct {
		line int
		e    api.Errno
	}{
		"\n": {1, api.ErrSyntax}, "point 0 0": {1, api.ErrSyntax}, start + "triangle 0 1 2": {4, api.ErrSyntax}, singleText + "\n": {5, api.ErrSyntax}, "\n" + singleText: {1, api.ErrSyntax},
		start + "triangle 0 1 2\npoint 1 1\n": {5, api.ErrSyntax}, start + "triangle 0 1 2\npoint 1 1\npoint": {5, api.ErrSyntax}, start + "triangle 0 1 9\npoint 1 1\n": {5, api.ErrSyntax},
		"triangle 0 1 2\n" + start: {2, api.ErrSyntax}, "point 0 0\npoint 0\n": {2, api.ErrSyntax}, "point 0 0 0\n": {1, api.ErrSyntax}, "point\n": {1, api.ErrSyntax}, "point \n": {1, api.ErrSyntax},
		start + "triangle 0 1\n": {4, api.ErrSyntax}, start + "triangle 0 1 2 3\n": {4, api.ErrSyntax}, start + "triangle\n": {4, api.ErrSyntax}, start + "Triangle 0 1 2\n": {4, api.ErrSyntax},
		"points 0 0\n": {1, api.ErrSyntax}, "Point 0 0\n": {1, api.ErrSyntax}, "0 0\n": {1, api.ErrSyntax}, " point 0 0\n": {1, api.ErrSyntax}, "point 0 0 \n": {1, api.ErrSyntax}, "point  0 0\n": {1, api.ErrSyntax},
		"point 0  0\n": {1, api.ErrSyntax}, "point\t0 0\n": {1, api.ErrSyntax}, "point 0 0\r\n": {1, api.ErrSyntax}, "point 0 0\x00\n": {1, api.ErrSyntax}, "point +1 0\n": {1, api.ErrSyntax}, "point 01 0\n": {1, api.ErrSyntax},
		"point -0 0\n": {1, api.ErrSyntax}, "point 0 -01\n": {1, api.ErrSyntax}, "point 0 --1\n": {1, api.ErrSyntax}, "point 0 -\n": {1, api.ErrSyntax}, "point 0 1.0\n": {1, api.ErrSyntax}, "point 0 0x1\n": {1, api.ErrSyntax},
		"point 0 1_0\n": {1, api.ErrSyntax}, "point 0 10000000\n": {1, api.ErrSyntax}, "point -10000000 0\n": {1, api.ErrSyntax}, "point 0 99999999999999999999\n": {1, api.ErrSyntax}, "point 0 ٣\n": {1, api.ErrSyntax},
		start + "triangle 0 1 02\n": {4, api.ErrSyntax}, start + "triangle 0 1 -0\n": {4, api.ErrSyntax}, start + "triangle 0 1 10000000\n": {4, api.ErrSyntax}, "point 0 10001\npoint 0 0": {2, api.ErrSyntax},
		start + "triangle 0 1 2\ntriangle\nwrong\n": {5, api.ErrSyntax}, "point 10001 0\nwrong\n": {2, api.ErrSyntax}, "point 0 0\n\npoint 4 0\npoint 0 4\ntriangle 0 1 2\n": {2, api.ErrSyntax}, "wrong": {1, api.ErrSyntax},
		"": {0, api.ErrGap}, start: {0, api.ErrGap}, "triangle 0 1 2\n": {0, api.ErrMissing}, "point 9999999 0\n": {0, api.ErrRange}, "point 0 -9999999\n": {0, api.ErrRange}, "point 1 0\npoint 10001 0\n": {0, api.ErrRange},
		start + "point 4 0\ntriangle 0 1 2\n": {0, api.ErrExists}, start + "triangle 0 1 9999999\n": {0, api.ErrMissing}, start + "triangle 0 1 -1\n": {0, api.ErrMissing}, start + "triangle 1 2 0\n": {0, api.ErrOrder},
		start + "triangle 0 2 1\n": {0, api.ErrClash}, start + "point 4 4\ntriangle 0 1 2\ntriangle 0 1 3\n": {0, api.ErrDouble}, start + "point 4 4\ntriangle 0 1 2\n": {0, api.ErrOpen}, start + "triangle 0 1 2\ntriangle 0 1 2\n": {0, api.ErrOrder},
	} {
		n, line, e := mesh.Parse(s)
		wantError(t, fmt.Sprintf("%q", s), n, e, x.e)
		want(t, fmt.Sprintf("the line of %q", s), line, e, x.line, x.e)
	}
}

func TestP6_6ParseOfLongTexts(t *testing.T) {
	for s, x := range map[string]struct {
		line int
		e    api.Errno
	}{
		strings.Repeat("point 1000 11\n", 4286)[4:]:              {1, api.ErrSyntax},
		strings.Repeat("triangle 111 222 333\n", 2857) + "wr\n":  {2858, api.ErrSyntax},
		strings.Repeat("triangle 111 222 333\n", 2857) + "wro\n": {0, api.ErrLarge},
		strings.Repeat("triangle 11 222 333\n", 3000):            {0, api.ErrLarge},
		strings.Repeat("triangle 11 222 333\n", 3000) + "\n":     {0, api.ErrLarge},
		strings.Repeat("x", 60000):                               {1, api.ErrSyntax},
		strings.Repeat("x", 60001):                               {0, api.ErrLarge},
		strings.Repeat("\n", 60001):                              {0, api.ErrLarge},
		strings.Repeat("point 1 1\n", 41):                        {0, api.ErrLarge},
		strings.Repeat("point 1 1\n", 40):                        {0, api.ErrExists},
	} {
		n, line, e := mesh.Parse(s)
		wantError(t, fmt.Sprintf("%d bytes, %q", len(s), s[len(s)-1:]), n, e, x.e)
		want(t, fmt.Sprintf("%d bytes, the line", len(s)), line, e, x.line, x.e)
	}
}

func TestP6_11ParseUndoesPrint(t *testing.T) {
	for what, n := range anyNets() {
		text, e := mesh.Print(n)
		again, line, f := mesh.Parse(text)
		if e != api.OK || line != 0 {
			t.Errorf("%s: error %d, line %d", what, e, line)
		}
		want(t, what, again, f, n, api.OK)
	}
}
