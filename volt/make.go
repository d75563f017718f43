package volt

import (
	"slices"

	"quadrupole/api"
)

// maxSlew is the greatest slew: no electrode can go farther at once.
const maxSlew = 2 * api.MaxVolt

// validateRamp returns the errors of a and b, and then ErrArg if there is no such slew.
func validateRamp(a, b []int, slew int) api.Errno {
	if e := validateTwo(a, b); e != api.OK {
		return e
	}
	if slew < 1 || slew > maxSlew {
		return api.ErrArg
	}
	return api.OK
}

// stepsOf returns the jump of a and b, divided by the slew and rounded up.
func stepsOf(a, b []int, slew int) int {
	return (jumpOf(a, b) + slew - 1) / slew
}

// Steps returns the smallest number of jumps of a ramp from a to b.
func Steps(a, b []int, slew int) (int, api.Errno) {
	if e := validateRamp(a, b, slew); e != api.OK {
		return 0, e
	}
	return stepsOf(a, b, slew), api.OK
}

// toward returns voltages from which each electrode has gone toward those of b by as much as it can.
func toward(volts, b []int, slew int) []int {
	next := make([]int, len(volts))
	for wire, x := range volts {
		next[wire] = min(max(b[wire], x-slew), x+slew)
	}
	return next
}

// Ramp returns the ramp from a to b in which each electrode goes as fast as it can.
func Ramp(a, b []int, slew int) ([][]int, api.Errno) {
	if e := validateRamp(a, b, slew); e != api.OK {
		return nil, e
	}
	at := slices.Clone(a)
	ramp := [][]int{at}
	for range stepsOf(a, b, slew) {
		at = toward(at, b, slew)
		ramp = append(ramp, at)
	}
	return ramp, api.OK
}

// Without returns the gains without an electrode.
func Without(gains [][]int, wire int) ([][]int, api.Errno) {
	if e := Validate(gains); e != api.OK {
		return nil, e
	}
	if wire < 0 || wire >= wiresOf(gains) {
		return nil, api.ErrNone
	}
	if wiresOf(gains) == 1 {
		return nil, api.ErrArg
	}
	left := make([][]int, len(gains))
	for point, row := range gains {
		left[point] = slices.Delete(slices.Clone(row), wire, wire+1)
	}
	return left, api.OK
}

// Sum returns the sums of two voltages, if they are voltages.
func Sum(gains [][]int, a, b []int) ([]int, bool, api.Errno) {
	if e := validateVolts(gains, a, b); e != api.OK {
		return nil, false, e
	}
	sums := make([]int, len(a))
	for wire := range sums {
		sums[wire] = a[wire] + b[wire]
	}
	if size(sums) > api.MaxVolt {
		return nil, false, api.OK
	}
	return sums, true, api.OK
}
