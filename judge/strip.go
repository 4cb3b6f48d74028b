package judge

import (
	"slices"

	"tracery/api"
	"tracery/geom"
)

// A strip is a run of a line's points, with its box, and halved where it is
// long: boxes spare most of two lines, or of a line and a point, a closer look.
type strip struct {
	box
	run    []api.Point
	halves []strip
}

// How many points a run has that is not halved any more.
const short = 9

// stripOf: the halves have the point at which a run is cut in common, so that no segment is lost.
func stripOf(run []api.Point) strip {
	s := strip{box: boxOf(run), run: run}
	if len(run) > short {
		middle := len(run) / 2
		s.halves = []strip{stripOf(run[:middle+1]), stripOf(run[middle:])}
	}
	return s
}

// passes: whether p is on the strip.
func (s strip) passes(p api.Point) bool {
	if !s.holds(p) {
		return false
	}
	if len(s.halves) > 0 {
		return slices.ContainsFunc(s.halves, func(half strip) bool { return half.passes(p) })
	}
	for i, to := range s.run[1:] {
		if isOn(s.run[i], to, p) {
			return true
		}
	}
	return false
}

// meets: whether both strips have a common point that is none of the joints.
func (s strip) meets(t strip, joints []api.Point) bool {
	if !s.near(t.box) {
		return false
	}
	if len(s.run) < len(t.run) {
		s, t = t, s
	}
	if len(s.halves) > 0 {
		return slices.ContainsFunc(s.halves, func(half strip) bool { return half.meets(t, joints) })
	}
	for i, b := range s.run[1:] {
		for k, d := range t.run[1:] {
			if !apart(s.run[i], b, t.run[k], d, joints) {
				return true
			}
		}
	}
	return false
}

// apart: whether the segments ab and cd have no common point, or one, and it is a joint.
func apart(a, b, c, d api.Point, joints []api.Point) bool {
	how, _ := geom.Meet(a, b, c, d)
	switch how {
	case 0:
		return true
	case 3:
		return false
	}
	return slices.ContainsFunc(joints, func(j api.Point) bool { return isOn(a, b, j) && isOn(c, d, j) })
}

// isOn: whether p is on the segment ab; all three may be.
func isOn(a, b, p api.Point) bool {
	on, _ := geom.On(a, b, p)
	return on
}
