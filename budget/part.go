package budget

import (
	"slices"
	"sort"

	"quadrupole/api"
)

// maxRoom is the greatest room that is told.
const maxRoom = 1000

// grown returns the budget with more uses of an item.
func grown(l []api.Item, item, more int) []api.Item {
	longer := slices.Clone(l)
	longer[item].Uses += more
	return longer
}

// Room returns by how much the uses of an item can grow so that the budget still closes.
func Room(l []api.Item, limit api.Rat, item int) (int, api.Errno) {
	if e := validateItem(l, item); e != api.OK {
		return 0, e
	}
	if !isLimit(limit) {
		return 0, api.ErrArg
	}
	if !closes(l, limit) {
		return 0, api.ErrRule
	}
	// The total never falls when uses grow, so that what is too much stays too much.
	return sort.Search(maxRoom, func(more int) bool { return !closes(grown(l, item, more+1), limit) }), api.OK
}

// Allow checks that the shares keep within parts of the limit.
func Allow(l []api.Item, limit api.Rat, parts []int) api.Errno {
	if e := validateBy(l, nil, limit); e != api.OK {
		return e
	}
	if len(parts) != len(l) {
		return api.ErrArg
	}
	sum := 0
	for _, part := range parts {
		if !isPart(part) {
			return api.ErrArg
		}
		sum += part
	}
	if sum > limit.Num {
		return api.ErrFit
	}
	for k, item := range l {
		part := fraction{parts[k], limit.Den}
		if part.less(shareOf(item)) {
			return api.ErrRule
		}
	}
	return api.OK
}
