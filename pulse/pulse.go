// Package pulse is layer 1: loops in phase space (see shared/doc/01-pulse.md).
package pulse

import "quadrupole/api"

// modeCount is how many modes there are: 0 to modeCount - 1.
const modeCount = 4

// Validate returns ErrLarge if p has too many segments, and then ErrArg if a force is out of range.
func Validate(p []int) api.Errno {
	if len(p) > api.MaxSegments {
		return api.ErrLarge
	}
	for _, force := range p {
		if !isForce(force) {
			return api.ErrArg
		}
	}
	return api.OK
}

func isForce(force int) bool {
	return -api.MaxForce <= force && force <= api.MaxForce
}

func isMode(mode int) bool {
	return 0 <= mode && mode < modeCount
}

// areModes reports whether modes is a set of 1 to 4 modes. It does not ask for the upper number: more than 4 modes cannot ascend.
func areModes(modes []int) bool {
	for i, mode := range modes {
		if !isMode(mode) || i > 0 && mode <= modes[i-1] {
			return false
		}
	}
	return len(modes) > 0
}

// validateIn returns the errors of a pulse, and then those of a mode.
func validateIn(p []int, mode int) api.Errno {
	if e := Validate(p); e != api.OK {
		return e
	}
	if !isMode(mode) {
		return api.ErrArg
	}
	return api.OK
}

// validateBoth returns the errors of p, and then those of q.
func validateBoth(p, q []int) api.Errno {
	if e := Validate(p); e != api.OK {
		return e
	}
	return Validate(q)
}
