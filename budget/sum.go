package budget

import (
	"slices"

	"quadrupole/api"
)

// shareOf returns the share of an item.
func shareOf(item api.Item) fraction {
	return fraction{item.Uses, 1}.times(fraction(item.Rate))
}

// totalOf returns the total of a budget. Items may have more uses than a valid budget.
func totalOf(l []api.Item) fraction {
	total := fraction{0, 1}
	for _, item := range l {
		total = total.plus(shareOf(item))
	}
	return total
}

// closes reports whether a budget closes by a limit. Items may have more uses than a valid budget.
func closes(l []api.Item, limit api.Rat) bool {
	return !fraction(limit).less(totalOf(l))
}

// Shares returns the shares of the items.
func Shares(l []api.Item) ([]api.Rat, api.Errno) {
	if e := Validate(l); e != api.OK {
		return nil, e
	}
	shares := make([]api.Rat, len(l))
	for k, item := range l {
		shares[k] = api.Rat(shareOf(item))
	}
	return shares, api.OK
}

// Total returns the sum of the shares.
func Total(l []api.Item) (api.Rat, api.Errno) {
	if e := Validate(l); e != api.OK {
		return api.Rat{}, e
	}
	return api.Rat(totalOf(l)), api.OK
}

// usesOf returns the sum of all uses.
func usesOf(l []api.Item) int {
	sum := 0
	for _, item := range l {
		sum += item.Uses
	}
	return sum
}

// Chance returns the chance of any error.
func Chance(l []api.Item) (api.Rat, api.Errno) {
	if e := Validate(l); e != api.OK {
		return api.Rat{}, e
	}
	if usesOf(l) > api.MaxUses {
		return api.Rat{}, api.ErrLarge
	}
	none := fraction{1, 1}
	for _, item := range l {
		for range item.Uses {
			none = none.times(fraction(item.Rate).rest())
		}
	}
	return api.Rat(none.rest()), api.OK
}

// Closes reports whether the total is at most the limit.
func Closes(l []api.Item, limit api.Rat) (bool, api.Errno) {
	if e := validateBy(l, nil, limit); e != api.OK {
		return false, e
	}
	return closes(l, limit), api.OK
}

// Worst returns the set of the items with the greatest share.
func Worst(l []api.Item) ([]int, api.Errno) {
	if e := Validate(l); e != api.OK {
		return nil, e
	}
	var worst []int
	for k, item := range l {
		share := shareOf(item)
		if !slices.ContainsFunc(l, func(other api.Item) bool { return share.less(shareOf(other)) }) {
			worst = append(worst, k)
		}
	}
	return worst, api.OK
}
