package pulse

import (
	"iter"

	"quadrupole/api"
)

// rotation is a number of quarters of a turn, of which only the remainder modulo 4 matters.
type rotation int

// turn returns x turned by r.
func (r rotation) turn(x api.Point) api.Point {
	switch r & 3 { // the remainder from 0 to 3, for negative numbers too
	case 1:
		return api.Point{X: -x.Y, Y: x.X}
	case 2:
		return api.Point{X: -x.X, Y: -x.Y}
	case 3:
		return api.Point{X: x.Y, Y: -x.X}
	}
	return x
}

// Turn returns a point turned by any number of quarters.
func Turn(x api.Point, quarters int) api.Point {
	return rotation(quarters).turn(x)
}

// points goes through the path of p in a mode. The way of a segment is the step of the force 1, so that one turn leads from each segment to the next one.
func points(p []int, mode int) iter.Seq[api.Point] {
	return func(yield func(api.Point) bool) {
		turn := rotation(mode).turn
		at := api.Point{}
		way := api.Point{X: 1}
		if !yield(at) {
			return
		}
		for _, force := range p {
			at = plus(at, api.Point{X: force * way.X, Y: force * way.Y})
			if !yield(at) {
				return
			}
			way = turn(way)
		}
	}
}

func plus(a, b api.Point) api.Point {
	return api.Point{X: a.X + b.X, Y: a.Y + b.Y}
}

func cross(a, b api.Point) int {
	return a.X*b.Y - a.Y*b.X
}

func endOf(p []int, mode int) api.Point {
	last := api.Point{}
	for at := range points(p, mode) {
		last = at
	}
	return last
}

func areaOf(p []int, mode int) int {
	total := 0
	before := api.Point{}
	for at := range points(p, mode) {
		total += cross(before, at)
		before = at
	}
	return total
}

func sumOf(p []int, mode int) api.Point {
	total := api.Point{}
	for at := range points(p, mode) {
		total = plus(total, at)
	}
	return total
}

func isClosed(p []int, mode int) bool {
	return endOf(p, mode) == api.Point{}
}

func isCalm(p []int, mode int) bool {
	return isClosed(p, mode) && sumOf(p, mode) == api.Point{}
}

// Path returns the path of p in a mode.
func Path(p []int, mode int) ([]api.Point, api.Errno) {
	if e := validateIn(p, mode); e != api.OK {
		return nil, e
	}
	path := make([]api.Point, 0, len(p)+1)
	for at := range points(p, mode) {
		path = append(path, at)
	}
	return path, api.OK
}

// End returns the last point of the path of p in a mode.
func End(p []int, mode int) (api.Point, api.Errno) {
	if e := validateIn(p, mode); e != api.OK {
		return api.Point{}, e
	}
	return endOf(p, mode), api.OK
}

// Area returns the area of the path of p in a mode.
func Area(p []int, mode int) (int, api.Errno) {
	if e := validateIn(p, mode); e != api.OK {
		return 0, e
	}
	return areaOf(p, mode), api.OK
}

// Sum returns the sum of the path of p in a mode.
func Sum(p []int, mode int) (api.Point, api.Errno) {
	if e := validateIn(p, mode); e != api.OK {
		return api.Point{}, e
	}
	return sumOf(p, mode), api.OK
}

// Closed returns the set of the modes in which p is closed.
func Closed(p []int) ([]int, api.Errno) {
	return modesIn(p, isClosed)
}

// Calm returns the set of the modes in which p is calm.
func Calm(p []int) ([]int, api.Errno) {
	return modesIn(p, isCalm)
}

// modesIn returns the set of the modes in which p is what holds asks for.
func modesIn(p []int, holds func(p []int, mode int) bool) ([]int, api.Errno) {
	if e := Validate(p); e != api.OK {
		return nil, e
	}
	var modes []int
	for mode := range modeCount {
		if holds(p, mode) {
			modes = append(modes, mode)
		}
	}
	return modes, api.OK
}
