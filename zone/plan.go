package zone

import (
	"slices"

	"quadrupole/api"
)

// moves returns the moves of a place in ascending order.
func (n net) moves(at []int) []api.Move {
	moves := make([]api.Move, 0, len(at)*(n.zones-len(at))) // there cannot be more: each ion to each free zone
	for ion, from := range at {
		for _, to := range n.near[from] {
			if !slices.Contains(at, to) {
				moves = append(moves, api.Move{Ion: ion, To: to})
			}
		}
	}
	return moves
}

// check returns the error of a move of a place. That an ion stays where it is has no link.
func (n net) check(at []int, m api.Move) api.Errno {
	switch {
	case !isOneOf(m.Ion, len(at)) || !isOneOf(m.To, n.zones):
		return api.ErrNone
	case !n.linked(at[m.Ion], m.To):
		return api.ErrRule
	case slices.Contains(at, m.To):
		return api.ErrTwice
	}
	return api.OK
}

// Moves returns the moves of a place in ascending order.
func Moves(t api.Trap, at []int) ([]api.Move, api.Errno) {
	if e := ValidatePlace(t, at); e != api.OK {
		return nil, e
	}
	return netOf(t).moves(at), api.OK
}

// CheckPlan does a plan, and returns the place at its end and the number of its moves. With the error of a move it returns the number of this move.
func CheckPlan(t api.Trap, at []int, plan []api.Move) ([]int, int, api.Errno) {
	if e := ValidatePlace(t, at); e != api.OK {
		return nil, 0, e
	}
	if len(plan) > api.MaxMoves {
		return nil, 0, api.ErrLarge
	}
	n := netOf(t)
	now := slices.Clone(at)
	for i, m := range plan {
		if e := n.check(now, m); e != api.OK {
			return nil, i, e
		}
		now[m.Ion] = m.To
	}
	return now, len(plan), api.OK
}

// Back returns the plan that leads from the end of a plan back.
func Back(t api.Trap, at []int, plan []api.Move) ([]api.Move, api.Errno) {
	if _, _, e := CheckPlan(t, at, plan); e != api.OK {
		return nil, e
	}
	now := slices.Clone(at)
	back := make([]api.Move, len(plan))
	for i, m := range plan {
		back[len(plan)-1-i] = api.Move{Ion: m.Ion, To: now[m.Ion]}
		now[m.Ion] = m.To
	}
	return back, api.OK
}
