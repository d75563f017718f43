package heat

import "quadrupole/api"

// Fewest returns the smallest number of coolings that can be put in so that the plan fits the limit.
func Fewest(n int, plan []api.Act, limit int) (int, api.Errno) {
	if e := validateBy(n, plan, limit); e != api.OK {
		return 0, e
	}
	return len(windowsOf(plan, limit)), api.OK
}

// Insert returns the plan with the fewest coolings put in, each one just before the gate of a window.
func Insert(n int, plan []api.Act, limit int) ([]api.Act, api.Errno) {
	if e := validateBy(n, plan, limit); e != api.OK {
		return nil, e
	}
	var with []api.Act
	windows := windowsOf(plan, limit)
	for i, a := range plan {
		if len(windows) > 0 && windows[0].To == i {
			with = append(with, api.Act{Kind: kindCooling, Ion: a.Ion})
			windows = windows[1:]
		}
		with = append(with, a)
	}
	return with, api.OK
}

// CheckInsert checks that with is the plan with coolings put in so that it fits the limit, and returns how many were put in.
func CheckInsert(n int, plan, with []api.Act, limit int) (int, api.Errno) {
	if e := validateBy(n, plan, limit); e != api.OK {
		return 0, e
	}
	if len(with) > 2*api.MaxActs {
		return 0, api.ErrLarge
	}
	if e := validateActs(n, with); e != api.OK {
		return 0, e
	}
	if !isInserted(plan, with) {
		return 0, api.ErrFit
	}
	if len(hotOf(with, limit)) > 0 {
		return 0, api.ErrRule
	}
	return len(with) - len(plan), api.OK
}

// isInserted reports whether coolings can be left out of with so that the plan is left. Of equal coolings the first one may always stay: if a later one stays, the two can change their parts.
func isInserted(plan, with []api.Act) bool {
	for _, a := range with {
		if len(plan) > 0 && plan[0] == a {
			plan = plan[1:]
		} else if !isCooling(a) {
			return false
		}
	}
	return len(plan) == 0
}

// Curve returns Fewest for the limits from 0 to the first one for which it is 0, at most to MaxHeat.
func Curve(n int, plan []api.Act) ([]int, api.Errno) {
	if e := Validate(n, plan); e != api.OK {
		return nil, e
	}
	var curve []int
	for limit := range api.MaxHeat + 1 {
		fewest := len(windowsOf(plan, limit))
		curve = append(curve, fewest)
		if fewest == 0 {
			break
		}
	}
	return curve, api.OK
}
