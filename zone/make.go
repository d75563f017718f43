package zone

import (
	"cmp"
	"slices"

	"quadrupole/api"
)

// Without returns t without the link k.
func Without(t api.Trap, k int) (api.Trap, api.Errno) {
	if e := Validate(t); e != api.OK {
		return api.Trap{}, e
	}
	if !isOneOf(k, len(t.Links)) {
		return api.Trap{}, api.ErrNone
	}
	return api.Trap{Zones: t.Zones, Links: slices.Concat(t.Links[:k], t.Links[k+1:])}, api.OK
}

// Rename returns t with the number to[z] for each zone z.
func Rename(t api.Trap, to []int) (api.Trap, api.Errno) {
	if e := Validate(t); e != api.OK {
		return api.Trap{}, e
	}
	if !isRenaming(t.Zones, to) {
		return api.Trap{}, api.ErrArg
	}
	links := make([]api.Link, len(t.Links))
	for i, l := range t.Links {
		a, b := to[l.A], to[l.B]
		links[i] = api.Link{A: min(a, b), B: max(a, b)}
	}
	slices.SortFunc(links, compare)
	return api.Trap{Zones: t.Zones, Links: links}, api.OK
}

// isRenaming reports whether to has each of the zones once: in a list of as many numbers, each one is there only once if all are there.
func isRenaming(zones int, to []int) bool {
	if len(to) != zones {
		return false
	}
	for zone := range zones {
		if !slices.Contains(to, zone) {
			return false
		}
	}
	return true
}

// compare orders links in the order of their fields.
func compare(l, m api.Link) int {
	return cmp.Or(cmp.Compare(l.A, m.A), cmp.Compare(l.B, m.B))
}
