package geom

import (
	"slices"

	"tracery/api"
)

// Simple: whether ps as a polyline meets itself nowhere.
func Simple(ps ...api.Point) (bool, api.Errno) {
	if len(ps) == 0 || !May(ps...) {
		return false, api.ErrArg
	}
	if len(ps) == 1 {
		return true, api.OK
	}
	line := segments(ps)
	for i, s := range line {
		if s.a == s.b {
			return false, api.OK
		}
		for j := range i {
			if s.meet(line[j]) != allowed(ps, j, i) {
				return false, api.OK
			}
		}
	}
	return true, api.OK
}

// allowed is how the segments j and i of a simple polyline meet, j < i.
func allowed(ps []api.Point, j, i int) int {
	last := len(ps) - 1
	closing := j == 0 && i == last-1 && ps[0] == ps[last]
	if j+1 == i || closing {
		return touching
	}
	return missing
}

// segments of a polyline; that of a single point is a segment of one point.
func segments(ps []api.Point) []segment {
	if len(ps) == 1 {
		return []segment{{ps[0], ps[0]}}
	}
	line := make([]segment, 0, len(ps)-1)
	for i := 1; i < len(ps); i++ {
		line = append(line, segment{ps[i-1], ps[i]})
	}
	return line
}

// Apart: whether two polylines have no common point but first or last ones of both.
func Apart(p, q []api.Point) (bool, api.Errno) {
	if len(p) == 0 || len(q) == 0 || !May(p...) || !May(q...) {
		return false, api.ErrArg
	}
	joints := commonEnds(p, q)
	other := segments(q)
	for _, s := range segments(p) {
		for _, t := range other {
			if !s.apart(t, joints) {
				return false, api.OK
			}
		}
	}
	return true, api.OK
}

// commonEnds are the points that are the first or the last one of both.
func commonEnds(p, q []api.Point) []api.Point {
	var ends []api.Point
	for _, e := range [...]api.Point{p[0], p[len(p)-1]} {
		if e == q[0] || e == q[len(q)-1] {
			ends = append(ends, e)
		}
	}
	return ends
}

// apart: whether s and t have no common point but one of the joints. A joint
// counts wherever it lies on them: a polyline may come back to its own end.
func (s segment) apart(t segment, joints []api.Point) bool {
	switch s.meet(t) {
	case missing:
		return true
	case covering:
		return false
	}
	return slices.ContainsFunc(joints, func(j api.Point) bool { return s.has(j) && t.has(j) })
}
