package volt

import (
	"cmp"
	"slices"

	"quadrupole/api"
)

// farthest returns how far apart two lists with equally many elements are: the greatest distance of two elements at the same place, and 0 without elements.
func farthest[E any](a, b []E, distance func(E, E) int) int {
	far := 0
	for k := range a {
		far = max(far, distance(a[k], b[k]))
	}
	return far
}

func distance(a, b int) int {
	return max(a, b) - min(a, b)
}

// jumpOf returns the jump of two voltages of equally many electrodes.
func jumpOf(a, b []int) int {
	return farthest(a, b, distance)
}

// Jump returns the jump of two voltages.
func Jump(a, b []int) (int, api.Errno) {
	if e := validateTwo(a, b); e != api.OK {
		return 0, e
	}
	return jumpOf(a, b), api.OK
}

// CheckCourse checks that the course is one for the row, and returns its jump.
func CheckCourse(gains [][]int, row, course [][]int) (int, api.Errno) {
	if e := validateRow(gains, row); e != api.OK {
		return 0, e
	}
	if len(course) != len(row) {
		return 0, api.ErrArg
	}
	if e := validateEach(course, wiresOf(gains), api.MaxVolt); e != api.OK {
		return 0, e
	}
	for k, volts := range course {
		if !slices.Equal(fieldOf(gains, volts), row[k]) {
			return 0, api.ErrProof
		}
	}
	last := len(course) - 1
	return farthest(course[:last], course[1:], jumpOf), api.OK
}

// course is a course for the first wishes of a row, with its jump.
type course struct {
	steps [][]int
	jump  int
}

// jumpTo returns the jump of c with voltages behind it.
func (c course) jumpTo(volts []int) int {
	if len(c.steps) == 0 {
		return 0
	}
	return max(c.jump, jumpOf(c.steps[len(c.steps)-1], volts))
}

// smoothestTo returns the smoothest one of some courses, at least one, with voltages behind it.
func smoothestTo(courses []course, volts []int) course {
	best, least := 0, courses[0].jumpTo(volts)
	for k, c := range courses {
		if jump := c.jumpTo(volts); jump < least {
			best, least = k, jump
		}
	}
	return course{append(slices.Clone(courses[best].steps), volts), least}
}

// smoothest returns a course with the smallest jump for a row of wishes, if there is one. A course is only as smooth as its beginning, so for each end the smoothest beginning is enough.
func smoothest(gains, row [][]int) (course, bool) {
	courses := []course{{}}
	for _, wish := range row {
		var longer []course
		for volts := range makers(gains, wish) {
			longer = append(longer, smoothestTo(courses, volts))
		}
		if len(longer) == 0 {
			return course{}, false
		}
		courses = longer
	}
	return slices.MinFunc(courses, func(a, b course) int { return cmp.Compare(a.jump, b.jump) }), true
}

// Smooth returns the smallest jump of a course for the row.
func Smooth(gains [][]int, row [][]int) (int, bool, api.Errno) {
	if e := validateRow(gains, row); e != api.OK {
		return 0, false, e
	}
	best, found := smoothest(gains, row)
	return best.jump, found, api.OK
}

// Course returns a course for the row with the smallest jump.
func Course(gains [][]int, row [][]int) ([][]int, bool, api.Errno) {
	if e := validateRow(gains, row); e != api.OK {
		return nil, false, e
	}
	best, found := smoothest(gains, row)
	return best.steps, found, api.OK
}
