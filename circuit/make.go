package circuit

import (
	"slices"

	"quadrupole/api"
)

// Inverse returns the gates of c from the last one to the first one, each turned back.
func Inverse(n int, c []api.Gate) ([]api.Gate, api.Errno) {
	if e := Validate(n, c); e != api.OK {
		return nil, e
	}
	inverse := slices.Clone(c)
	slices.Reverse(inverse)
	for i := range inverse {
		inverse[i].Angle = api.Turn - inverse[i].Angle
	}
	return inverse, api.OK
}

// Join returns the gates of c and then those of d.
func Join(n int, c, d []api.Gate) ([]api.Gate, api.Errno) {
	if e := validateBoth(n, c, d); e != api.OK {
		return nil, e
	}
	if len(c)+len(d) > api.MaxGates {
		return nil, api.ErrLarge
	}
	return slices.Concat(c, d), api.OK
}

// Pair returns the gates of c that are of the type of g or of h.
func Pair(n int, c []api.Gate, g, h api.Gate) ([]api.Gate, api.Errno) {
	if e := validateWith(n, c, g, h); e != api.OK {
		return nil, e
	}
	var pair []api.Gate
	for _, x := range c {
		if sameType(x, g) || sameType(x, h) {
			pair = append(pair, x)
		}
	}
	return pair, api.OK
}

// Angle returns the sum of the angles of the gates of c that are of the type of g, modulo Turn.
func Angle(n int, c []api.Gate, g api.Gate) (int, api.Errno) {
	if e := validateWith(n, c, g); e != api.OK {
		return 0, e
	}
	total := 0
	for _, x := range c {
		if sameType(x, g) {
			total += x.Angle
		}
	}
	return total % api.Turn, api.OK
}

// Rename returns c with each qubit q replaced by to[q].
func Rename(n int, c []api.Gate, to []int) ([]api.Gate, api.Errno) {
	if e := Validate(n, c); e != api.OK {
		return nil, e
	}
	if !isRenaming(n, to) {
		return nil, api.ErrArg
	}
	other := make([]api.Gate, len(c))
	for i, g := range c {
		other[i] = renamed(g, to)
	}
	return other, api.OK
}

// isRenaming reports whether to has each of the n qubits once: in a list of n numbers, each one is there only once if all are there.
func isRenaming(n int, to []int) bool {
	if len(to) != n {
		return false
	}
	for q := range n {
		if !slices.Contains(to, q) {
			return false
		}
	}
	return true
}

func renamed(g api.Gate, to []int) api.Gate {
	a := to[g.A]
	if g.Kind != coupling {
		g.A = a
		return g
	}
	b := to[g.B]
	g.A, g.B = min(a, b), max(a, b)
	return g
}
