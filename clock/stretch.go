package clock

import "quadrupole/api"

// stretches goes through all stretches, in ascending order of a and then b.
func stretches(yield func(a, b int) bool) {
	for a := range api.MaxTime {
		for b := a + 1; b <= api.MaxTime; b++ {
			if !yield(a, b) {
				return
			}
		}
	}
}

// demandOf returns the demand of the stretch from a to b.
func demandOf(l []api.Job, a, b int) int {
	demand := 0
	for _, j := range l {
		if j.From >= a && j.By <= b {
			demand += j.Need
		}
	}
	return demand
}

func isCrowded(l []api.Job, a, b int) bool {
	return demandOf(l, a, b) > b-a
}

// Demand returns the demand of the stretch from a to b.
func Demand(l []api.Job, a, b int) (int, api.Errno) {
	if e := validateIn(l, a, b); e != api.OK {
		return 0, e
	}
	return demandOf(l, a, b), api.OK
}

// CheckCrowded checks that the stretch from a to b is crowded.
func CheckCrowded(l []api.Job, a, b int) api.Errno {
	if e := validateIn(l, a, b); e != api.OK {
		return e
	}
	if !isCrowded(l, a, b) {
		return api.ErrProof
	}
	return api.OK
}

// Crowded returns the first crowded stretch.
func Crowded(l []api.Job) (int, int, bool, api.Errno) {
	if e := Validate(l); e != api.OK {
		return 0, 0, false, e
	}
	for a, b := range stretches {
		if isCrowded(l, a, b) {
			return a, b, true, api.OK
		}
	}
	return 0, 0, false, api.OK
}

// Slack returns the smallest number of units that a stretch with a demand has beyond it.
func Slack(l []api.Job) (int, bool, api.Errno) {
	if e := Validate(l); e != api.OK {
		return 0, false, e
	}
	if len(l) == 0 {
		return 0, false, api.OK
	}
	slack := api.MaxTime // no stretch with a demand has so much
	for a, b := range stretches {
		if demand := demandOf(l, a, b); demand > 0 {
			slack = min(slack, b-a-demand)
		}
	}
	return slack, true, api.OK
}

// Speed returns the greatest demand of a stretch for each of its units.
func Speed(l []api.Job) (api.Rat, api.Errno) {
	if e := Validate(l); e != api.OK {
		return api.Rat{}, e
	}
	speed := api.Rat{Num: 0, Den: 1}
	for a, b := range stretches {
		demand := demandOf(l, a, b)
		if demand*speed.Den > speed.Num*(b-a) {
			speed = ratOf(demand, b-a)
		}
	}
	return speed, api.OK
}

// ratOf returns num / den, both above 0, as a valid fraction.
func ratOf(num, den int) api.Rat {
	common, rest := num, den
	for rest != 0 {
		common, rest = rest, common%rest
	}
	return api.Rat{Num: num / common, Den: den / common}
}
