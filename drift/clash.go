package drift

import "quadrupole/api"

// clash reports whether two readings alone do not agree by a rate: whether a track would have to change more between them than it can.
func clash(r, s api.Reading, rate int) bool {
	return max(r.Low-s.High, s.Low-r.High) > rate*distance(r.Time, s.Time)
}

// firstClash returns the first pair of valid readings that clash by a rate.
func firstClash(l []api.Reading, rate int) (int, int, bool) {
	var i, j int
	for i = range l {
		for j = i + 1; j < len(l); j++ {
			if clash(l[i], l[j], rate) {
				goto found
			}
		}
	}
	return 0, 0, false
found:
	return i, j, true
}

// agree reports whether valid readings agree by a rate: they do if no two of them clash.
func agree(l []api.Reading, rate int) bool {
	_, _, found := firstClash(l, rate)
	return !found
}

// Agree reports whether some track keeps the rate and the readings.
func Agree(l []api.Reading, rate int) (bool, api.Errno) {
	if e := validateBy(l, rate); e != api.OK {
		return false, e
	}
	return agree(l, rate), api.OK
}

// Clash returns the first pair of readings that clash by the rate.
func Clash(l []api.Reading, rate int) (int, int, bool, api.Errno) {
	if e := validateBy(l, rate); e != api.OK {
		return 0, 0, false, e
	}
	i, j, found := firstClash(l, rate)
	return i, j, found, api.OK
}

// CheckClash checks that the readings i and j clash by the rate.
func CheckClash(l []api.Reading, rate, i, j int) api.Errno {
	if e := Validate(l); e != api.OK {
		return e
	}
	if !isOneOf(i, len(l)) || !isOneOf(j, len(l)) {
		return api.ErrNone
	}
	if !isRate(rate) {
		return api.ErrArg
	}
	// A reading never clashes with itself, as its Low is at most its High.
	if !clash(l[i], l[j], rate) {
		return api.ErrProof
	}
	return api.OK
}
