package budget

import (
	"slices"

	"quadrupole/api"
)

// Join returns the items of both budgets.
func Join(l, m []api.Item) ([]api.Item, api.Errno) {
	if e := Validate(l); e != api.OK {
		return nil, e
	}
	if e := Validate(m); e != api.OK {
		return nil, e
	}
	if len(l)+len(m) > api.MaxItems {
		return nil, api.ErrLarge
	}
	return slices.Concat(l, m), api.OK
}

// Scale returns the budget with all uses multiplied by a number.
func Scale(l []api.Item, by int) ([]api.Item, api.Errno) {
	if e := Validate(l); e != api.OK {
		return nil, e
	}
	scaled := slices.Clone(l)
	for k, item := range l {
		if by < 1 || by > api.MaxUses/item.Uses { // the product may be beyond the integers
			return nil, api.ErrArg
		}
		scaled[k].Uses = item.Uses * by
	}
	return scaled, api.OK
}

// Without returns the budget without an item.
func Without(l []api.Item, k int) ([]api.Item, api.Errno) {
	if e := validateItem(l, k); e != api.OK {
		return nil, e
	}
	return slices.Delete(slices.Clone(l), k, k+1), api.OK
}
