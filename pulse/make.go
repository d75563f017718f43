package pulse

import (
	"slices"

	"quadrupole/api"
)

// Scale returns p with all forces multiplied by a number.
func Scale(p []int, by int) ([]int, api.Errno) {
	if e := Validate(p); e != api.OK {
		return nil, e
	}
	scaled := make([]int, len(p))
	for j, force := range p {
		if force == 0 {
			continue
		}
		if !isForce(by) { // the product is out of range too, and might not fit an int
			return nil, api.ErrArg
		}
		scaled[j] = force * by
		if !isForce(scaled[j]) {
			return nil, api.ErrArg
		}
	}
	return scaled, api.OK
}

// Back returns the forces of p from the last one to the first one.
func Back(p []int) ([]int, api.Errno) {
	if e := Validate(p); e != api.OK {
		return nil, e
	}
	back := slices.Clone(p)
	slices.Reverse(back)
	return back, api.OK
}

// Delay returns p behind a number of segments with the force 0.
func Delay(p []int, segments int) ([]int, api.Errno) {
	if e := Validate(p); e != api.OK {
		return nil, e
	}
	if segments < 0 || segments > api.MaxSegments {
		return nil, api.ErrArg
	}
	return joined(make([]int, segments), p)
}

// Join returns the forces of p and then those of q.
func Join(p, q []int) ([]int, api.Errno) {
	if e := validateBoth(p, q); e != api.OK {
		return nil, e
	}
	return joined(p, q)
}

// joined returns the forces of p and then those of q: ErrLarge if they are too many.
func joined(p, q []int) ([]int, api.Errno) {
	if len(p)+len(q) > api.MaxSegments {
		return nil, api.ErrLarge
	}
	return slices.Concat(p, q), api.OK
}

// Add returns the forces of p plus those of q, one by one.
func Add(p, q []int) ([]int, api.Errno) {
	if e := validateBoth(p, q); e != api.OK {
		return nil, e
	}
	if len(p) != len(q) {
		return nil, api.ErrFit
	}
	added := make([]int, len(p))
	for j := range p {
		added[j] = p[j] + q[j]
		if !isForce(added[j]) {
			return nil, api.ErrArg
		}
	}
	return added, api.OK
}
