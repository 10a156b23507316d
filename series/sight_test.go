package series_test

import (
	"fmt"
	"math/big"
	"testing"

	"swath/api"
	"swath/series"
)

func TestP8_6CheckSights(t *testing.T) {
	const most = api.MaxSight
	for what, x := range map[string]api.TwoTracks{
		"the example":          exampleTracks(),
		"nothing":              {},
		"the far edge":         tracks(sight(1000, 1000, most, most), sight(-1000, -1000, -most, -most)),
		"all that may be":      tracks(sight(-1000, 1000, -most, most), sight(1000, -1000, -most, most)),
		"a track like another": tracks(sight(800, 600, 0, 1), sight(800, 600, 0, 1)),
	} {
		if e := series.CheckSights(x); e != api.OK {
			t.Errorf("%s: error %d", what, e)
		}
	}
	for what, x := range wrongSights() {
		if e := series.CheckSights(x.x); e != x.e {
			t.Errorf("%s: error %d, want %d", what, e, x.e)
		}
		f, e := series.UpAndEast(x.x)
		wantError(t, "UpAndEast: "+what, f, e, x.e)
		b, e := series.UpAndEastBox(x.x)
		wantError(t, "UpAndEastBox: "+what, b, e, x.e)
	}
}

func TestP8_6UpAndEast(t *testing.T) {
	const most = api.MaxSight
	for _, x := range []struct {
		what  string
		x     api.TwoTracks
		right [2]api.Frac
		e     api.Errno
	}{
		{"example 9", tracks(sight(800, 600, 10, 10), sight(800, -600, 6, 6)), [2]api.Frac{{Num: 10, Den: 1}, {Num: 10, Den: 3}}, api.OK},
		{"example 9 the other way round", tracks(sight(800, -600, 6, 6), sight(800, 600, 10, 10)), [2]api.Frac{{Num: 10, Den: 1}, {Num: 10, Den: 3}}, api.OK},
		{"the middle", exampleTracks(), [2]api.Frac{{Num: 175, Den: 16}, {Num: 55, Den: 12}}, api.OK},
		{"nothing", tracks(sight(800, 600, -3, 3), sight(800, -600, 0, 0)), [2]api.Frac{{Num: 0, Den: 1}, {Num: 0, Den: 1}}, api.OK},
		{"up and east", tracks(sight(1000, 0, 3, 4), sight(0, 1000, -4, -3)), [2]api.Frac{{Num: 7, Den: 2}, {Num: -7, Den: 2}}, api.OK},
		{"down and west", tracks(sight(-1000, 0, 3, 4), sight(0, -500, -4, -4)), [2]api.Frac{{Num: -7, Den: 2}, {Num: 8, Den: 1}}, api.OK},
		{"the greatest one", tracks(sight(1000, 0, most, most), sight(0, 1000, -most, -most)), [2]api.Frac{{Num: most, Den: 1}, {Num: -most, Den: 1}}, api.OK},
		{"a greater one", tracks(sight(500, 0, 500000000, 500000001), sight(0, 1000, 0, 0)), [2]api.Frac{}, api.ErrLarge},
		{"just the greatest one", tracks(sight(500, 0, 500000000, 500000000), sight(0, 500, -500000000, -500000000)), [2]api.Frac{{Num: most, Den: 1}, {Num: -most, Den: 1}}, api.OK},
		{"a lesser one to the east", tracks(sight(500, 0, 0, 0), sight(0, 500, -500000001, -500000000)), [2]api.Frac{}, api.ErrLarge},
		{"a great numerator", tracks(sight(999, 0, most, most), sight(0, 1000, 0, 0)), [2]api.Frac{}, api.ErrLarge},
		{"far away", tracks(sight(1000, 999, most, most), sight(999, 998, -most, -most)), [2]api.Frac{}, api.ErrLarge},
		{"one way", tracks(sight(800, 600, 0, 0), sight(-400, -300, 0, 0)), [2]api.Frac{}, api.ErrRank},
		{"one track twice", tracks(sight(800, 600, 1, 2), sight(800, 600, 1, 2)), [2]api.Frac{}, api.ErrRank},
		{"no sight", tracks(sight(0, 0, 0, 0), sight(800, 600, 1, 2)), [2]api.Frac{}, api.ErrRank},
		{"nothing to the east", tracks(sight(700, 0, 0, 0), sight(900, 0, 1, 2)), [2]api.Frac{}, api.ErrRank},
		{"nothing upwards", tracks(sight(0, 4, most, most), sight(0, -6, most, most)), [2]api.Frac{}, api.ErrRank},
		{"nearly one way", tracks(sight(1000, 999, 0, 0), sight(999, 998, 0, 0)), [2]api.Frac{{Num: 0, Den: 1}, {Num: 0, Den: 1}}, api.OK},
	} {
		f, e := series.UpAndEast(x.x)
		want(t, x.what, f, e, x.right, x.e)
		b, e := series.UpAndEastBox(x.x)
		if (x.e == api.ErrRank) != (e == api.ErrRank) || x.e != api.ErrRank && e != api.OK {
			t.Errorf("%s: UpAndEastBox has the error %d", x.what, e)
		}
		zeroBeside(t, x.what, b, e)
	}
}

// seen returns what two tracks see of a movement.
func seen(x api.TwoTracks, upwards, east *big.Rat) [2]*big.Rat {
	of := func(track api.TrackSight) *big.Rat {
		return plus(times(part(track.Up, 1000), upwards), times(part(track.East, 1000), east))
	}
	return [2]*big.Rat{of(x.First), of(x.Second)}
}

// resolved returns the movement of which two tracks see this, by elimination: nothing if there are several.
func resolved(x api.TwoTracks, first, second *big.Rat) []*big.Rat {
	l := [][]*big.Rat{
		{part(x.First.Up, 1000), part(x.First.East, 1000), first},
		{part(x.Second.Up, 1000), part(x.Second.East, 1000), second},
	}
	if reduce(l, 2) < 2 {
		return nil
	}
	return []*big.Rat{new(big.Rat).Quo(l[0][2], l[0][0]), new(big.Rat).Quo(l[1][2], l[1][1])}
}

func (r *numbers) anyTracks(count int) []api.TwoTracks {
	out := []api.TwoTracks{exampleTracks()}
	for i := range count {
		switch i % 4 {
		case 0:
			out = append(out, r.tracks(3, 20))
		case 1:
			out = append(out, r.tracks(1000, 1000))
		case 2:
			out = append(out, r.tracks(30, 100000))
		default:
			out = append(out, r.tracks(1000, api.MaxSight))
		}
	}
	return out
}

func TestP8_6UpAndEastOfAny(t *testing.T) {
	r, errs := numbers{23}, counter{}
	for _, x := range r.anyTracks(1200) {
		a, b := x.First.Moved, x.Second.Moved
		right, rightError := two(resolved(x, part(a.Lo+a.Hi, 2), part(b.Lo+b.Hi, 2)))
		f, e := series.UpAndEast(x)
		want(t, fmt.Sprint("UpAndEast ", x), f, e, right, rightError)
		errs[e]++
		if e != api.OK {
			continue
		}
		for i, middle := range []*big.Rat{part(a.Lo+a.Hi, 2), part(b.Lo+b.Hi, 2)} {
			if seen(x, ratOf(f[0]), ratOf(f[1]))[i].Cmp(middle) != 0 {
				t.Errorf("%v: the track %d sees something else of %v", x, i, f)
			}
		}
	}
	errs.saw(t, api.OK, api.ErrRank, api.ErrLarge)
}

func TestP8_6UpAndEastBox(t *testing.T) {
	const most = api.MaxSight
	for _, x := range []struct {
		what  string
		x     api.TwoTracks
		right [2]api.Range
	}{
		{"example 9", exampleTracks(), [2]api.Range{{Lo: 10, Hi: 12}, {Lo: 3, Hi: 6}}},
		{"example 9 the other way round", tracks(exampleTracks().Second, exampleTracks().First), [2]api.Range{{Lo: 10, Hi: 12}, {Lo: 3, Hi: 6}}},
		{"nothing but a place", tracks(sight(800, 600, 10, 10), sight(800, -600, 6, 6)), [2]api.Range{{Lo: 10, Hi: 10}, {Lo: 3, Hi: 4}}},
		{"down and west", tracks(sight(-800, -600, 10, 13), sight(-800, 600, 6, 6)), [2]api.Range{{Lo: -12, Hi: -10}, {Lo: -6, Hi: -3}}},
		{"up and east", tracks(sight(1000, 0, 3, 4), sight(0, 1000, -4, -3)), [2]api.Range{{Lo: 3, Hi: 4}, {Lo: -4, Hi: -3}}},
		{"as far as may be", tracks(sight(1000, 999, -most, most), sight(999, 998, -most, most)), [2]api.Range{{Lo: -1997000000000000, Hi: 1997000000000000}, {Lo: -1999000000000000, Hi: 1999000000000000}}},
	} {
		b, e := series.UpAndEastBox(x.x)
		want(t, x.what, b, e, x.right, api.OK)
	}
	r, errs := numbers{24}, counter{}
	for _, x := range r.anyTracks(1200) {
		var right [2]api.Range
		rightError := api.OK
		for i := range right {
			var lo, hi *big.Rat
			for _, first := range []int{x.First.Moved.Lo, x.First.Moved.Hi} {
				for _, second := range []int{x.Second.Moved.Lo, x.Second.Moved.Hi} {
					corner := resolved(x, whole(first), whole(second))
					if corner == nil {
						rightError = api.ErrRank
						continue
					}
					if lo == nil {
						lo, hi = corner[i], corner[i]
					}
					lo, hi = least(lo, corner[i]), greatest(hi, corner[i])
				}
			}
			if rightError == api.OK {
				right[i] = api.Range{Lo: down(lo), Hi: up(hi)}
			}
		}
		b, e := series.UpAndEastBox(x)
		want(t, fmt.Sprint("UpAndEastBox ", x), b, e, right, rightError)
		errs[e]++
	}
	errs.saw(t, api.OK, api.ErrRank)
}

// P8.12: a movement that both tracks see lies in the box, and so does that of the middle.
func TestP8_12MovementsInBox(t *testing.T) {
	r, inside := numbers{25}, 0
	for _, x := range r.anyTracks(800) {
		b, e := series.UpAndEastBox(x)
		if e != api.OK {
			continue
		}
		if f, e := series.UpAndEast(x); e == api.OK {
			for i, m := range f {
				if m.Num < b[i].Lo*m.Den || m.Num > b[i].Hi*m.Den {
					t.Errorf("%v: %v is not in %v", x, f, b)
				}
			}
		}
		for range 20 {
			a := x.First.Moved
			c := x.Second.Moved
			m := resolved(x, whole(a.Lo+r.below(a.Hi-a.Lo+1)), whole(c.Lo+r.below(c.Hi-c.Lo+1)))
			for i := range m {
				inside++
				if m[i].Cmp(whole(b[i].Lo)) < 0 || m[i].Cmp(whole(b[i].Hi)) > 0 {
					t.Errorf("%v: %v is not in %v", x, m[i], b[i])
				}
			}
		}
	}
	if inside < 1000 {
		t.Error("only so many movements:", inside)
	}
}

// P8.12, the other way round: whole movements, with what the tracks see of them rounded to both sides.
func TestP8_12WholeMovements(t *testing.T) {
	r := numbers{26}
	for range 1000 {
		x := r.tracks(1000, 0)
		upwards, east := r.within(100000), r.within(100000)
		s := seen(x, whole(upwards), whole(east))
		x.First.Moved = api.Range{Lo: down(s[0]), Hi: up(s[0])}
		x.Second.Moved = api.Range{Lo: down(s[1]), Hi: up(s[1])}
		b, e := series.UpAndEastBox(x)
		if e == api.ErrRank {
			continue
		}
		if e != api.OK || upwards < b[0].Lo || upwards > b[0].Hi || east < b[1].Lo || east > b[1].Hi {
			t.Errorf("%v: %d, %d is not in %v, error %d", x, upwards, east, b, e)
		}
	}
}
