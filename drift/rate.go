package drift

import "quadrupole/api"

// Slowest returns the smallest rate by which the readings agree.
func Slowest(l []api.Reading) (int, bool, api.Errno) {
	if e := Validate(l); e != api.OK {
		return 0, false, e
	}
	for rate := range api.MaxRate + 1 {
		if agree(l, rate) {
			return rate, true, api.OK
		}
	}
	return 0, false, api.OK
}

// Steepest returns the greatest change of which two readings tell, for each unit of the time between them.
func Steepest(l []api.Reading) (api.Rat, api.Errno) {
	if e := Validate(l); e != api.OK {
		return api.Rat{}, e
	}
	steepest := api.Rat{Num: 0, Den: 1}
	for i, r := range l {
		for j, s := range l {
			change, far := r.Low-s.High, distance(r.Time, s.Time)
			if i != j && change*steepest.Den > steepest.Num*far {
				steepest = ratOf(change, far)
			}
		}
	}
	return steepest, api.OK
}

// ratOf returns num / den, both above 0, as a valid fraction.
func ratOf(num, den int) api.Rat {
	common, rest := num, den
	for rest != 0 {
		common, rest = rest, common%rest
	}
	return api.Rat{Num: num / common, Den: den / common}
}
