package budget

import (
	"cmp"
	"slices"

	"quadrupole/api"
)

// validateChoice returns ErrArg if a choice is not a set of numbers of fixes, and then ErrTwice if it has two fixes of one item.
func validateChoice(fixes []api.Fix, choice []int) api.Errno {
	for k, number := range choice {
		if number < 0 || number >= len(fixes) || k > 0 && number <= choice[k-1] {
			return api.ErrArg
		}
	}
	if hasTwo(fixes, choice) {
		return api.ErrTwice
	}
	return api.OK
}

// hasTwo reports whether a set of numbers of fixes has two fixes of one item.
func hasTwo(fixes []api.Fix, choice []int) bool {
	var fixed [api.MaxItems]bool
	for _, number := range choice {
		item := fixes[number].Item
		if fixed[item] {
			return true
		}
		fixed[item] = true
	}
	return false
}

// with returns the budget with a choice, and its cost.
func with(l []api.Item, fixes []api.Fix, choice []int) ([]api.Item, int) {
	fixed := slices.Clone(l)
	cost := 0
	for _, number := range choice {
		fix := fixes[number]
		fixed[fix.Item].Rate = fix.Rate
		cost += fix.Cost
	}
	return fixed, cost
}

// With returns the budget with a choice, and its cost.
func With(l []api.Item, fixes []api.Fix, choice []int) ([]api.Item, int, api.Errno) {
	if e := ValidateFixes(l, fixes); e != api.OK {
		return nil, 0, e
	}
	if e := validateChoice(fixes, choice); e != api.OK {
		return nil, 0, e
	}
	fixed, cost := with(l, fixes, choice)
	return fixed, cost, api.OK
}

// CheckChoice checks that the budget with a choice closes, and returns its cost.
func CheckChoice(l []api.Item, fixes []api.Fix, limit api.Rat, choice []int) (int, api.Errno) {
	if e := validateBy(l, fixes, limit); e != api.OK {
		return 0, e
	}
	if e := validateChoice(fixes, choice); e != api.OK {
		return 0, e
	}
	fixed, cost := with(l, fixes, choice)
	if !closes(fixed, limit) {
		return 0, api.ErrRule
	}
	return cost, api.OK
}

// option is a choice with its cost, and the total of the budget with it.
type option struct {
	choice []int
	cost   int
	total  fraction
}

// compare puts cheaper options first, and of those that cost the same the first choice.
func (o option) compare(p option) int {
	return cmp.Or(cmp.Compare(o.cost, p.cost), slices.Compare(o.choice, p.choice))
}

// options returns all choices of fixes. The one of no fixes is always among them.
func options(l []api.Item, fixes []api.Fix) []option {
	var all []option
	for bits := range 1 << len(fixes) {
		choice := chosen(bits)
		if hasTwo(fixes, choice) {
			continue
		}
		fixed, cost := with(l, fixes, choice)
		all = append(all, option{choice, cost, totalOf(fixed)})
	}
	return all
}

// chosen returns the set of the numbers of fixes whose bits are set.
func chosen(bits int) []int {
	var choice []int
	for number := range api.MaxFixes {
		if bits>>number&1 == 1 {
			choice = append(choice, number)
		}
	}
	return choice
}

// cheapest returns the first one of the cheapest choices by which the budget closes, if there is one.
func cheapest(l []api.Item, fixes []api.Fix, limit api.Rat) (option, bool) {
	closing := slices.DeleteFunc(options(l, fixes), func(o option) bool { return fraction(limit).less(o.total) })
	if len(closing) == 0 {
		return option{}, false
	}
	return slices.MinFunc(closing, option.compare), true
}

// Cheapest returns the smallest cost of a choice by which the budget closes.
func Cheapest(l []api.Item, fixes []api.Fix, limit api.Rat) (int, bool, api.Errno) {
	if e := validateBy(l, fixes, limit); e != api.OK {
		return 0, false, e
	}
	first, found := cheapest(l, fixes, limit)
	return first.cost, found, api.OK
}

// Choice returns the first one of the choices with the smallest cost by which the budget closes.
func Choice(l []api.Item, fixes []api.Fix, limit api.Rat) ([]int, bool, api.Errno) {
	if e := validateBy(l, fixes, limit); e != api.OK {
		return nil, false, e
	}
	first, found := cheapest(l, fixes, limit)
	return first.choice, found, api.OK
}

// Best returns the smallest total of a choice that costs at most so much.
func Best(l []api.Item, fixes []api.Fix, cost int) (api.Rat, api.Errno) {
	if e := ValidateFixes(l, fixes); e != api.OK {
		return api.Rat{}, e
	}
	if cost < 0 || cost > api.MaxFixes*api.MaxCost {
		return api.Rat{}, api.ErrArg
	}
	var totals []fraction
	for _, o := range options(l, fixes) {
		if o.cost <= cost {
			totals = append(totals, o.total)
		}
	}
	return api.Rat(slices.MinFunc(totals, fraction.compare)), api.OK
}
