package judge

import (
	"tracery/api"
	"tracery/geom"
)

// A box is the least one, along the axes, that holds some points; that of no point holds the origin alone.
type box struct{ least, greatest api.Point }

// boxOf: the box of at most as many points as a line may have, each of which may be.
func boxOf(ps []api.Point) box {
	least, greatest, _ := geom.Box(ps...)
	return box{least, greatest}
}

// with: the box of what both hold.
func (b box) with(c box) box {
	return boxOf([]api.Point{b.least, b.greatest, c.least, c.greatest})
}

func (b box) width() int  { return b.greatest.X - b.least.X }
func (b box) height() int { return b.greatest.Y - b.least.Y }

func (b box) holds(p api.Point) bool { return b.near(box{p, p}) }

// near: whether both boxes have a common point.
func (b box) near(c box) bool {
	return b.least.X <= c.greatest.X && c.least.X <= b.greatest.X &&
		b.least.Y <= c.greatest.Y && c.least.Y <= b.greatest.Y
}
