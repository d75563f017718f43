package heat

import (
	"slices"

	"quadrupole/api"
)

// Only returns the acts of one ion, in their order.
func Only(n int, plan []api.Act, ion int) ([]api.Act, api.Errno) {
	if e := Validate(n, plan); e != api.OK {
		return nil, e
	}
	if !isOneOf(ion, n) {
		return nil, api.ErrNone
	}
	var only []api.Act
	for _, a := range plan {
		if a.Ion == ion {
			only = append(only, a)
		}
	}
	return only, api.OK
}

// Join returns the acts of plan and then those of more.
func Join(n int, plan, more []api.Act) ([]api.Act, api.Errno) {
	if e := Validate(n, plan); e != api.OK {
		return nil, e
	}
	if e := Validate(n, more); e != api.OK {
		return nil, e
	}
	if len(plan)+len(more) > api.MaxActs {
		return nil, api.ErrLarge
	}
	return slices.Concat(plan, more), api.OK
}

// Uncool returns the plan without its coolings.
func Uncool(n int, plan []api.Act) ([]api.Act, api.Errno) {
	if e := Validate(n, plan); e != api.OK {
		return nil, e
	}
	return slices.DeleteFunc(slices.Clone(plan), isCooling), api.OK
}

// Scale returns the plan with all heats multiplied by a number.
func Scale(n int, plan []api.Act, by int) ([]api.Act, api.Errno) {
	if e := Validate(n, plan); e != api.OK {
		return nil, e
	}
	scaled := slices.Clone(plan)
	for i, a := range scaled {
		if !isScalable(a.Heat, by) {
			return nil, api.ErrArg
		}
		scaled[i].Heat *= by
	}
	return scaled, api.OK
}

// isScalable reports whether heat * by is from 0 to MaxHeat. The product itself may be beyond the integers of the language.
func isScalable(heat, by int) bool {
	return heat == 0 || 0 <= by && by <= api.MaxHeat/heat
}
