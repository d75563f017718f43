package drift

import (
	"slices"

	"quadrupole/api"
)

// Turn returns the readings with time turned round.
func Turn(l []api.Reading) ([]api.Reading, api.Errno) {
	if e := Validate(l); e != api.OK {
		return nil, e
	}
	turned := slices.Clone(l)
	slices.Reverse(turned)
	for k := range turned {
		turned[k].Time = api.MaxValue - turned[k].Time
	}
	return turned, api.OK
}

// Shift returns the readings with a number added to all Times. A sum may wrap round beyond the integers of the language: it ends so far from 0 to MaxValue that it is no Time in any case.
func Shift(l []api.Reading, by int) ([]api.Reading, api.Errno) {
	if e := Validate(l); e != api.OK {
		return nil, e
	}
	shifted := slices.Clone(l)
	for k := range shifted {
		shifted[k].Time += by
	}
	if e := Validate(shifted); e != api.OK {
		return nil, e
	}
	return shifted, api.OK
}

// Opposite returns the readings of the opposite value.
func Opposite(l []api.Reading) ([]api.Reading, api.Errno) {
	if e := Validate(l); e != api.OK {
		return nil, e
	}
	opposite := slices.Clone(l)
	for k, r := range l {
		opposite[k].Low, opposite[k].High = -r.High, -r.Low
	}
	return opposite, api.OK
}

// without returns readings without the reading k.
func without(l []api.Reading, k int) []api.Reading {
	return slices.Delete(slices.Clone(l), k, k+1)
}

// Without returns the readings without the reading k.
func Without(l []api.Reading, k int) ([]api.Reading, api.Errno) {
	if e := Validate(l); e != api.OK {
		return nil, e
	}
	if !isOneOf(k, len(l)) {
		return nil, api.ErrNone
	}
	if len(l) == 1 {
		return nil, api.ErrRule
	}
	return without(l, k), api.OK
}
