package zone

import (
	"slices"

	"quadrupole/api"
)

// walk goes from a zone on to a near one in which it has not been, the smallest one of these, until there is none.
func (n net) walk(zone int) []int {
	var order []int
	isNew := func(z int) bool { return !slices.Contains(order, z) }
	for {
		order = append(order, zone)
		ahead := slices.IndexFunc(n.near[zone], isNew)
		if ahead < 0 {
			return order
		}
		zone = n.near[zone][ahead]
	}
}

// lineOf returns the order of the zones of a line, and nothing for another trap: a walk through all zones uses all links if they are one fewer. Along a line such a walk begins at an end, first at the smaller one.
func lineOf(t api.Trap) []int {
	if len(t.Links) != t.Zones-1 {
		return nil
	}
	n := netOf(t)
	for zone := range t.Zones {
		if order := n.walk(zone); len(order) == t.Zones {
			return order
		}
	}
	return nil
}

// ringOf returns the order of the zones of a ring, and nothing for another trap: a walk through all zones, and the link from the last one to the first one, are all links if these are as many as the zones. One zone or two cannot have so many links.
func ringOf(t api.Trap) []int {
	if len(t.Links) != t.Zones {
		return nil
	}
	n := netOf(t)
	order := n.walk(0)
	if len(order) == t.Zones && n.linked(0, order[t.Zones-1]) {
		return order
	}
	return nil
}

// Line returns the order of the zones of a line that begins at its smaller end, and true; false if t is not a line.
func Line(t api.Trap) ([]int, bool, api.Errno) {
	if e := Validate(t); e != api.OK {
		return nil, false, e
	}
	order := lineOf(t)
	return order, order != nil, api.OK
}

// Ring returns the order of the zones of a ring that begins with 0 and the smaller one of the zones near it, and true; false if t is not a ring.
func Ring(t api.Trap) ([]int, bool, api.Errno) {
	if e := Validate(t); e != api.OK {
		return nil, false, e
	}
	order := ringOf(t)
	return order, order != nil, api.OK
}

// Sequence returns the ions of a place in the order of the line or the ring, and true; false if t is neither.
func Sequence(t api.Trap, at []int) ([]int, bool, api.Errno) {
	if e := ValidatePlace(t, at); e != api.OK {
		return nil, false, e
	}
	if order := lineOf(t); order != nil {
		return ionsAlong(order, at), true, api.OK
	}
	if order := ringOf(t); order != nil {
		return fromFirst(ionsAlong(order, at)), true, api.OK
	}
	return nil, false, api.OK
}

// ionsAlong returns the ions of a place in the order of their zones.
func ionsAlong(order, at []int) []int {
	var ions []int
	for _, zone := range order {
		if ion := slices.Index(at, zone); ion >= 0 {
			ions = append(ions, ion)
		}
	}
	return ions
}

// fromFirst turns a round of ions so that it begins with the ion 0, if there is one.
func fromFirst(ions []int) []int {
	first := max(slices.Index(ions, 0), 0)
	return slices.Concat(ions[first:], ions[:first])
}
