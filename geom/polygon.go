package geom

import "tracery/api"

// Area: twice the area of the polygon ps, above 0 if it goes round to the left.
func Area(ps ...api.Point) (int64, api.Errno) {
	if !May(ps...) {
		return 0, api.ErrArg
	}
	if len(ps) < 3 {
		return 0, api.OK
	}
	// 4,096 terms of at most 2^41 each way: the sum stays within 2^53.
	var sum int64
	p := ps[len(ps)-1]
	for _, next := range ps {
		sum += int64(p.X)*int64(next.Y) - int64(next.X)*int64(p.Y)
		p = next
	}
	return sum, api.OK
}

// Box: the least X and Y of ps, and the greatest.
func Box(ps ...api.Point) (api.Point, api.Point, api.Errno) {
	if !May(ps...) {
		return api.Point{}, api.Point{}, api.ErrArg
	}
	if len(ps) == 0 {
		return api.Point{}, api.Point{}, api.ErrSmall
	}
	least, greatest := ps[0], ps[0]
	for _, p := range ps[1:] {
		least = api.Point{X: min(least.X, p.X), Y: min(least.Y, p.Y)}
		greatest = api.Point{X: max(greatest.X, p.X), Y: max(greatest.Y, p.Y)}
	}
	return least, greatest, api.OK
}
