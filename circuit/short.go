package circuit

import (
	"slices"

	"quadrupole/api"
)

// with returns a short circuit with g behind it, shortened where it can be, in the memory of c. What it returns is short: where g cancels a gate, all gates behind that one commute with it, so that it kept none of them from the gates before it.
func (c gates) with(g api.Gate) gates {
	for i := len(c) - 1; i >= 0; i-- {
		if sameType(c[i], g) {
			c[i].Angle = (c[i].Angle + g.Angle) % api.Turn
			if c[i].Angle == 0 {
				return slices.Delete(c, i, i+1)
			}
			return c
		}
		if !commute(c[i], g) {
			break
		}
	}
	return append(c, g)
}

// shortened returns what is left of c, in new memory.
func shortened(c []api.Gate) gates {
	var left gates
	for _, g := range c {
		left = left.with(g)
	}
	return left
}

func reduced(c []api.Gate) []api.Gate {
	return nameOf(shortened(c))
}

// IsShort reports whether no circuit that is alike can be shortened.
func IsShort(n int, c []api.Gate) (bool, api.Errno) {
	if e := Validate(n, c); e != api.OK {
		return false, e
	}
	return len(shortened(c)) == len(c), api.OK
}

// Reduce returns the name of what is left when nothing can be shortened any more.
func Reduce(n int, c []api.Gate) ([]api.Gate, api.Errno) {
	if e := Validate(n, c); e != api.OK {
		return nil, e
	}
	return reduced(c), api.OK
}

// Equal reports whether c and d are equal.
func Equal(n int, c, d []api.Gate) (bool, api.Errno) {
	if e := validateBoth(n, c, d); e != api.OK {
		return false, e
	}
	return slices.Equal(reduced(c), reduced(d)), api.OK
}
