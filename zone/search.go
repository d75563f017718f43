package zone

import (
	"slices"

	"quadrupole/api"
)

// place is a place as a key of maps. Places that are compared have equally many ions, so that the rest may be 0.
type place [api.MaxIons]int

func placeOf(at []int) place {
	var p place
	copy(p[:], at)
	return p
}

// after returns the place that a move makes.
func (p place) after(m api.Move) place {
	p[m.Ion] = m.To
	return p
}

// arrival is a place that is reached, with the last move of a shortest plan that leads there.
type arrival struct {
	at     place
	far    int
	before *arrival // nil for the place where the search begins
	by     api.Move
}

// plan returns the moves that lead to a.
func (a *arrival) plan() []api.Move {
	plan := make([]api.Move, a.far)
	for ; a.before != nil; a = a.before {
		plan[a.far-1] = a.by
	}
	return plan
}

// search returns a function that returns the places which at reaches, one more at each call, none before a nearer one, and nil after the last one.
func search(t api.Trap, at []int) func() *arrival {
	n := netOf(t)
	ions := len(at)
	start := &arrival{at: placeOf(at)}
	seen := map[place]bool{start.at: true}
	open := []*arrival{start}
	return func() *arrival {
		if len(open) == 0 {
			return nil
		}
		a := open[0]
		open = open[1:]
		for _, m := range n.moves(a.at[:ions]) {
			p := a.at.after(m)
			if !seen[p] {
				seen[p] = true
				open = append(open, &arrival{at: p, far: a.far + 1, before: a, by: m})
			}
		}
		return a
	}
}

// find returns the arrival at a place, or nil if it is not reached.
func find(t api.Trap, at, to []int) *arrival {
	goal := placeOf(to)
	next := search(t, at)
	for a := next(); a != nil; a = next() {
		if a.at == goal {
			return a
		}
	}
	return nil
}

// Far returns the smallest number of moves from at to another place, and true; false if it is not reached.
func Far(t api.Trap, at, to []int) (int, bool, api.Errno) {
	if e := validateBoth(t, at, to); e != api.OK {
		return 0, false, e
	}
	if a := find(t, at, to); a != nil {
		return a.far, true, api.OK
	}
	return 0, false, api.OK
}

// Plan returns a shortest plan from at to another place, and true; false if it is not reached.
func Plan(t api.Trap, at, to []int) ([]api.Move, bool, api.Errno) {
	if e := validateBoth(t, at, to); e != api.OK {
		return nil, false, e
	}
	if a := find(t, at, to); a != nil {
		return a.plan(), true, api.OK
	}
	return nil, false, api.OK
}

// Reach returns how many places at reaches, itself counted.
func Reach(t api.Trap, at []int) (int, api.Errno) {
	if e := ValidatePlace(t, at); e != api.OK {
		return 0, e
	}
	count := 0
	next := search(t, at)
	for a := next(); a != nil; a = next() {
		count++
	}
	return count, api.OK
}

// Farthest returns the greatest Far of the places that at reaches: that of the last one to be found.
func Farthest(t api.Trap, at []int) (int, api.Errno) {
	if e := ValidatePlace(t, at); e != api.OK {
		return 0, e
	}
	far := 0
	next := search(t, at)
	for a := next(); a != nil; a = next() {
		far = a.far
	}
	return far, api.OK
}

// CanSwap reports whether the place is reached in which the ions i and j have exchanged their zones.
func CanSwap(t api.Trap, at []int, i, j int) (bool, api.Errno) {
	if e := ValidatePlace(t, at); e != api.OK {
		return false, e
	}
	if !isOneOf(i, len(at)) || !isOneOf(j, len(at)) {
		return false, api.ErrNone
	}
	to := slices.Clone(at)
	to[i], to[j] = at[j], at[i]
	return find(t, at, to) != nil, api.OK
}
