package series

import "swath/api"

const trendColumn = 0 // of the heights

// CheckScreen returns the error of a screen: of the number of its points, or of the first wrong point.
func CheckScreen(l []api.ScreenPoint) api.Errno {
	if e := countError(len(l), api.MaxScreen); e != api.OK {
		return e
	}
	for _, p := range l {
		if e := firstError(
			sizeError(p.X, api.MaxScreenAway),
			sizeError(p.Y, api.MaxScreenAway),
			sizeError(p.Height, api.MaxScreenAway),
			phaseError(p.Phase),
		); e != api.OK {
			return e
		}
	}
	return api.OK
}

// HeightTrend returns slope and constant of the trend.
func HeightTrend(l []api.ScreenPoint) ([2]api.Frac, api.Errno) {
	if e := CheckScreen(l); e != api.OK {
		return [2]api.Frac{}, e
	}
	return slopeAndConstant(heightRows(l), trendColumn)
}

// Plane returns the factors of X and of Y, and the constant, of the plane.
func Plane(l []api.ScreenPoint) ([3]api.Frac, api.Errno) {
	if e := CheckScreen(l); e != api.OK {
		return [3]api.Frac{}, e
	}
	f, e := planeRows(l).solved()
	if e != api.OK {
		return [3]api.Frac{}, e
	}
	return f.fractions()
}

// Removed returns the phases less the trend, point by point.
func Removed(l []api.ScreenPoint) ([]int, api.Errno) {
	if e := CheckScreen(l); e != api.OK {
		return nil, e
	}
	points := heightRows(l)
	f, e := points.line(trendColumn)
	if e != api.OK {
		return nil, e
	}
	var out []int
	for _, r := range points {
		out = append(out, nearestTo(f.missed(r), f.den))
	}
	return out, api.OK
}

func heightRows(l []api.ScreenPoint) rows {
	var out rows
	for _, p := range l {
		out = append(out, row{p.Height, 0, 1, p.Phase})
	}
	return out
}

func planeRows(l []api.ScreenPoint) rows {
	var out rows
	for _, p := range l {
		out = append(out, row{p.X, p.Y, 1, p.Phase})
	}
	return out
}
