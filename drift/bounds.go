package drift

import (
	"maps"
	"math"

	"quadrupole/api"
)

// lastTime is the last time of which bounds are told.
const lastTime = 2 * api.MaxValue

// maxWidth is the greatest width that can be asked for.
const maxWidth = 100 * api.MaxValue

// boundsAt returns the smallest and the greatest number at a time that valid readings which agree leave: each reading lets the number be as far from its own ones as the rate allows.
func boundsAt(l []api.Reading, rate, time int) [2]int {
	low, high := math.MinInt, math.MaxInt
	for _, r := range l {
		change := rate * distance(r.Time, time)
		low = max(low, r.Low-change)
		high = min(high, r.High+change)
	}
	return [2]int{low, high}
}

// boundsOf returns the bounds at the Times of valid readings that agree. They are found by Time, since without a reading the others have other numbers in the list.
func boundsOf(l []api.Reading, rate int) map[int][2]int {
	bounds := map[int][2]int{}
	for _, r := range l {
		bounds[r.Time] = boundsAt(l, rate, r.Time)
	}
	return bounds
}

// widthAt returns how far apart the bounds of valid readings that agree are at a time.
func widthAt(l []api.Reading, rate, time int) int {
	bounds := boundsAt(l, rate, time)
	return bounds[1] - bounds[0]
}

// Bounds returns the smallest and the greatest number that some track may have at the time.
func Bounds(l []api.Reading, rate, time int) (int, int, bool, api.Errno) {
	if e := validateAt(l, rate, time); e != api.OK {
		return 0, 0, false, e
	}
	if !agree(l, rate) {
		return 0, 0, false, api.OK
	}
	bounds := boundsAt(l, rate, time)
	return bounds[0], bounds[1], true, api.OK
}

// Width returns the difference of the bounds at the time.
func Width(l []api.Reading, rate, time int) (int, bool, api.Errno) {
	if e := validateAt(l, rate, time); e != api.OK {
		return 0, false, e
	}
	if !agree(l, rate) {
		return 0, false, api.OK
	}
	return widthAt(l, rate, time), true, api.OK
}

// Until returns the greatest time at which the bounds are not farther apart than the width.
func Until(l []api.Reading, rate, width int) (int, bool, api.Errno) {
	if e := validateBy(l, rate); e != api.OK {
		return 0, false, e
	}
	if width < 0 || width > maxWidth {
		return 0, false, api.ErrArg
	}
	from := l[len(l)-1].Time
	if !agree(l, rate) || widthAt(l, rate, from) > width {
		return 0, false, api.OK
	}
	// Behind all readings the bounds only part, so there is no later time once they are too far apart.
	time := from
	for time < lastTime && widthAt(l, rate, time+1) <= width {
		time++
	}
	return time, true, api.OK
}

// Tight returns the readings with the bounds at their Times as Low and High.
func Tight(l []api.Reading, rate int) ([]api.Reading, bool, api.Errno) {
	if e := validateBy(l, rate); e != api.OK {
		return nil, false, e
	}
	if !agree(l, rate) {
		return nil, false, api.OK
	}
	tight, bounds := make([]api.Reading, len(l)), boundsOf(l, rate)
	for k, r := range l {
		b := bounds[r.Time]
		tight[k] = api.Reading{Time: r.Time, Low: b[0], High: b[1]}
	}
	return tight, true, api.OK
}

// Needless returns the numbers of the readings without which the bounds at the Times of the others stay as they are.
func Needless(l []api.Reading, rate int) ([]int, api.Errno) {
	if e := validateBy(l, rate); e != api.OK {
		return nil, e
	}
	if len(l) == 1 || !agree(l, rate) {
		return nil, api.OK
	}
	var needless []int
	for k, r := range l {
		rest := boundsOf(l, rate)
		delete(rest, r.Time)
		if maps.Equal(rest, boundsOf(without(l, k), rate)) {
			needless = append(needless, k)
		}
	}
	return needless, api.OK
}
