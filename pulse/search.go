package pulse

import (
	"iter"
	"slices"

	"quadrupole/api"
)

// Check returns ErrProof if p is not closed in all the modes, or its area in the first one of them is not area.
func Check(p []int, modes []int, area int) api.Errno {
	if e := Validate(p); e != api.OK {
		return e
	}
	if !areModes(modes) {
		return api.ErrArg
	}
	if !isClosedInAll(p, modes) || areaOf(p, modes[0]) != area {
		return api.ErrProof
	}
	return api.OK
}

func isClosedInAll(p, modes []int) bool {
	for _, mode := range modes {
		if !isClosed(p, mode) {
			return false
		}
	}
	return true
}

// validateSearch returns the errors of the arguments of a search.
func validateSearch(modes []int, length, force int) api.Errno {
	if !areModes(modes) {
		return api.ErrArg
	}
	if length < 0 || length > api.MaxSearch {
		return api.ErrArg
	}
	if force < 1 || force > api.MaxPush {
		return api.ErrArg
	}
	return api.OK
}

// pulses goes through all pulses of a length with forces from -force to force, in ascending order. It goes on in the memory of the one that it has given.
func pulses(length, force int) iter.Seq[[]int] {
	return func(yield func([]int) bool) {
		p := make([]int, length)
		for j := range p {
			p[j] = -force
		}
		for yield(p) {
			if !advance(p, force) {
				return
			}
		}
	}
}

// advance makes p the next pulse of the search; false if it was the last one.
func advance(p []int, force int) bool {
	for j := len(p) - 1; j >= 0; j-- {
		if p[j] < force {
			p[j]++
			return true
		}
		p[j] = -force
	}
	return false
}

// closedPulses goes through those pulses of the search that are closed in all the modes.
func closedPulses(modes []int, length, force int) iter.Seq[[]int] {
	return func(yield func([]int) bool) {
		for p := range pulses(length, force) {
			if isClosedInAll(p, modes) && !yield(p) {
				return
			}
		}
	}
}

// Areas returns the set of the areas, in the first mode, of the pulses that the search goes through.
func Areas(modes []int, length, force int) ([]int, api.Errno) {
	if e := validateSearch(modes, length, force); e != api.OK {
		return nil, e
	}
	var areas []int
	for p := range closedPulses(modes, length, force) {
		areas = append(areas, areaOf(p, modes[0]))
	}
	slices.Sort(areas)
	return slices.Compact(areas), api.OK
}

// Find returns a pulse of the search whose area in the first mode is area, and true; false if there is none.
func Find(modes []int, area, length, force int) ([]int, bool, api.Errno) {
	if e := validateSearch(modes, length, force); e != api.OK {
		return nil, false, e
	}
	for p := range closedPulses(modes, length, force) {
		if areaOf(p, modes[0]) == area {
			return slices.Clone(p), true, api.OK
		}
	}
	return nil, false, api.OK
}

// Shortest returns the smallest length at which some pulse of the search has a force that is not 0, and true; false if there is none.
func Shortest(modes []int, force int) (int, bool, api.Errno) {
	if e := validateSearch(modes, 1, force); e != api.OK {
		return 0, false, e
	}
	for length := 1; length <= api.MaxSearch; length++ {
		for p := range closedPulses(modes, length, force) {
			if pushes(p) {
				return length, true, api.OK
			}
		}
	}
	return 0, false, api.OK
}

// pushes reports whether p has a force that is not 0.
func pushes(p []int) bool {
	return slices.ContainsFunc(p, func(force int) bool { return force != 0 })
}
