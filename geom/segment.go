package geom

import "tracery/api"

// How two segments meet.
const (
	missing  = iota // no common point
	crossing        // one, and it is no end of either
	touching        // one, and it is an end
	covering        // more than one
)

// A segment is the points between two that may be, both among them.
type segment struct{ a, b api.Point }

// On: whether p is on the segment from a to b.
func On(a, b, p api.Point) (bool, api.Errno) {
	if !May(a, b, p) {
		return false, api.ErrArg
	}
	return segment{a, b}.has(p), api.OK
}

// Meet: how the segments from a to b and from c to d meet.
func Meet(a, b, c, d api.Point) (int, api.Errno) {
	if !May(a, b, c, d) {
		return 0, api.ErrArg
	}
	return segment{a, b}.meet(segment{c, d}), api.OK
}

func (s segment) has(p api.Point) bool {
	return between(s.a.X, s.b.X, p.X) && between(s.a.Y, s.b.Y, p.Y) && turn(s.a, s.b, p) == 0
}

func between(a, b, x int) bool { return min(a, b) <= x && x <= max(a, b) }

func (s segment) meet(t segment) int {
	if !s.near(t) {
		return missing
	}
	if s.parts(t) && t.parts(s) {
		return crossing
	}
	return s.sharedEnds(t)
}

// near: whether the boxes of both have a common point. It spares long lines
// most of the work.
func (s segment) near(t segment) bool {
	return overlap(s.a.X, s.b.X, t.a.X, t.b.X) && overlap(s.a.Y, s.b.Y, t.a.Y, t.b.Y)
}

func overlap(a, b, c, d int) bool { return max(a, b) >= min(c, d) && max(c, d) >= min(a, b) }

// parts: whether the ends of t lie on opposite sides of the line through s.
func (s segment) parts(t segment) bool {
	return turn(s.a, s.b, t.a)*turn(s.a, s.b, t.b) < 0
}

// sharedEnds tells how two segments meet that do not cross. Whatever they have
// in common then begins and ends with an end of one of them, so it is enough to
// count the ends that are on both.
func (s segment) sharedEnds(t segment) int {
	how := missing
	var first api.Point
	for _, p := range [...]api.Point{s.a, s.b, t.a, t.b} {
		if !s.has(p) || !t.has(p) {
			continue
		}
		if how == touching && p != first {
			return covering
		}
		how, first = touching, p
	}
	return how
}
