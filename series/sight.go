package series

import "swath/api"

const sightParts = 1000 // what a track sees is in thousandths

// A crossing is what two tracks tell together: the movement upwards is what both saw, each times its number of up, added
// and divided by den, which is above 0; that to the east likewise.
type crossing struct {
	den      int
	up, east [2]int
}

// CheckSights returns the error of the first track, or of the second one.
func CheckSights(x api.TwoTracks) api.Errno {
	return firstError(sightError(x.First), sightError(x.Second))
}

// UpAndEast returns the movements of which both tracks see the middle.
func UpAndEast(x api.TwoTracks) ([2]api.Frac, api.Errno) {
	c, e := crossingOf(x)
	if e != api.OK {
		return [2]api.Frac{}, e
	}
	first, second := x.First.Moved.Lo+x.First.Moved.Hi, x.Second.Moved.Lo+x.Second.Moved.Hi
	return smallPair(2*c.den, c.up[0]*first+c.up[1]*second, c.east[0]*first+c.east[1]*second)
}

// UpAndEastBox returns the enclosures of all movements that both tracks may have seen.
func UpAndEastBox(x api.TwoTracks) ([2]api.Range, api.Errno) {
	c, e := crossingOf(x)
	if e != api.OK {
		return [2]api.Range{}, e
	}
	enclosed := func(by [2]int) api.Range {
		return divided(added(scaled(x.First.Moved, by[0]), scaled(x.Second.Moved, by[1])), c.den)
	}
	return [2]api.Range{enclosed(c.up), enclosed(c.east)}, api.OK
}

func sightError(x api.TrackSight) api.Errno {
	if e := firstError(
		sizeError(x.Up, sightParts),
		sizeError(x.East, sightParts),
		sizeError(x.Moved.Lo, api.MaxSight),
		sizeError(x.Moved.Hi, api.MaxSight),
	); e != api.OK {
		return e
	}
	if x.Moved.Lo > x.Moved.Hi {
		return api.ErrOrder
	}
	return api.OK
}

// crossingOf returns what two tracks tell together: ErrRank if they look the same way.
func crossingOf(x api.TwoTracks) (crossing, api.Errno) {
	if e := CheckSights(x); e != api.OK {
		return crossing{}, e
	}
	a, b := x.First, x.Second
	determinant := a.Up*b.East - b.Up*a.East
	if determinant == 0 {
		return crossing{}, api.ErrRank
	}
	by := sightParts
	if determinant < 0 {
		by = -by
	}
	return crossing{
		den:  max(determinant, -determinant),
		up:   [2]int{by * b.East, -by * a.East},
		east: [2]int{-by * b.Up, by * a.Up},
	}, api.OK
}
