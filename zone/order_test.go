package zone_test

import (
	"slices"
	"testing"

	"quadrupole/api"
	"quadrupole/zone"
)

// sortedKey tells traps apart by their links, in whichever order these are.
func sortedKey(t api.Trap) string {
	links := make([]string, len(t.Links))
	for i, l := range t.Links {
		links[i] = key([]int{l.A, l.B})
	}
	slices.Sort(links)
	text := ""
	for _, l := range links {
		text += l
	}
	return text
}

// ordersOf lists, by the words of the chapter, the order that Line or Ring gives for each trap of a number of zones that shape makes of an order: the first one in ascending order.
func ordersOf(zones int, shape func(...int) api.Trap) map[string][]int {
	orders := map[string][]int{}
	for _, order := range everyPlace(zones, zones) { // in ascending order
		k := sortedKey(shape(order...))
		if _, ok := orders[k]; !ok {
			orders[k] = order
		}
	}
	return orders
}

// TestLineAndRing is of P3.4: all traps.
func TestLineAndRing(t *testing.T) {
	for zones := 1; zones <= api.MaxZones; zones++ {
		lines, rings := ordersOf(zones, along), map[string][]int{}
		if zones >= 3 {
			rings = ordersOf(zones, around)
		}
		for _, x := range everyTrap(zones) {
			line, isLine := lines[sortedKey(x)]
			ring, isRing := rings[sortedKey(x)]
			a, b := finds(zone.Line(x)), finds(zone.Ring(x))
			if !slices.Equal(a.value, line) || a.ok != isLine || a.e != api.OK {
				t.Fatalf("Line(%v) = %v, want %v, %v", x, a, line, isLine)
			}
			if !slices.Equal(b.value, ring) || b.ok != isRing || b.e != api.OK {
				t.Fatalf("Ring(%v) = %v, want %v, %v", x, b, ring, isRing)
			}
		}
	}
}

// TestLineAndRingOfSome is of P3.4: the links may come in any order.
func TestLineAndRingOfSome(t *testing.T) {
	two := trap(6, [2]int{0, 1}, [2]int{0, 2}, [2]int{1, 2}, [2]int{3, 4}, [2]int{3, 5}, [2]int{4, 5})
	tail := trap(4, [2]int{0, 1}, [2]int{1, 2}, [2]int{0, 2}, [2]int{2, 3})
	aside := trap(4, [2]int{0, 1}, [2]int{1, 2}, [2]int{0, 2})
	for _, c := range []struct {
		t          api.Trap
		line, ring []int
	}{
		{trap(1), []int{0}, nil},
		{trap(2), nil, nil},
		{trap(2, [2]int{0, 1}), []int{0, 1}, nil},
		{trap(3, [2]int{1, 2}), nil, nil},
		{along(3, 1, 0, 2), []int{2, 0, 1, 3}, nil},
		{along(5, 0, 4, 1, 3, 2), []int{2, 3, 1, 4, 0, 5}, nil},
		{around(2, 1, 0), nil, []int{0, 1, 2}},
		{around(3, 0, 5, 2, 4, 1), nil, []int{0, 3, 1, 4, 2, 5}},
		{cross(), nil, nil},
		{two, nil, nil},
		{tail, nil, nil},
		{aside, nil, nil},
		{full(4), nil, nil},
	} {
		for range c.t.Links {
			c.t.Links = append(c.t.Links[1:], c.t.Links[0])
			a, b := finds(zone.Line(c.t)), finds(zone.Ring(c.t))
			if !slices.Equal(a.value, c.line) || a.ok != (c.line != nil) || !slices.Equal(b.value, c.ring) || b.ok != (c.ring != nil) {
				t.Errorf("%v: Line %v, Ring %v", c.t, a, b)
			}
		}
	}
}

// TestSequence is of P3.4.
func TestSequence(t *testing.T) {
	mixed, round := along(3, 1, 0, 2), around(0, 2, 1, 3)
	for _, c := range []struct {
		t    api.Trap
		at   []int
		want []int
		ok   bool
	}{
		{trap(1), nil, nil, true},
		{trap(1), []int{0}, []int{0}, true},
		{mixed, nil, nil, true},
		{mixed, []int{3, 2}, []int{1, 0}, true},
		{mixed, []int{3, 2, 1}, []int{1, 2, 0}, true},
		{mixed, []int{0, 1, 2, 3}, []int{2, 0, 1, 3}, true},
		{round, nil, nil, true},
		{round, []int{3}, []int{0}, true},
		{round, []int{1, 0, 2}, []int{0, 1, 2}, true},
		{round, []int{3, 2, 1}, []int{0, 1, 2}, true},
		{round, []int{3, 1, 2}, []int{0, 2, 1}, true},
		{round, []int{2, 0, 3, 1}, []int{0, 3, 2, 1}, true},
		{cross(), nil, nil, false},
		{cross(), []int{1}, nil, false},
		{trap(2), []int{1}, nil, false},
	} {
		got := finds(zone.Sequence(c.t, c.at))
		if !slices.Equal(got.value, c.want) || got.ok != c.ok || got.e != api.OK {
			t.Errorf("Sequence(%v, %v) = %v", c.t, c.at, got)
		}
	}
}

// TestSequenceStays is the consequence of P3.4 and S3: on lines and on rings the places that are reached are those with the same Sequence; on a ring without a free zone no other place is reached.
func TestSequenceStays(t *testing.T) {
	for _, x := range []api.Trap{
		trap(1), along(1, 0), along(1, 2, 0), along(3, 0, 2, 1), along(4, 2, 0, 1, 3), along(0, 1, 2, 3, 4, 5), along(5, 3, 1, 0, 2, 4),
		around(0, 1, 2), around(0, 2, 1, 3), around(0, 3, 1, 4, 2), around(0, 5, 1, 4, 2, 3),
	} {
		_, isRing, _ := zone.Ring(x)
		for ions := range min(x.Zones, api.MaxIons) + 1 {
			stuck := isRing && ions == x.Zones
			places := everyPlace(x.Zones, ions)
			for i := 0; i < len(places); i += 1 + len(places)/24 {
				at := places[i]
				for _, to := range places {
					same := slices.Equal(sequenceOf(t, x, at), sequenceOf(t, x, to))
					want := same && (!stuck || slices.Equal(at, to))
					if far := finds(zone.Far(x, at, to)); far.ok != want {
						t.Fatalf("%v: Far from %v to %v is %v; they have the same Sequence: %v", x, at, to, far, same)
					}
				}
			}
		}
	}
}

// TestJunctions is of P3.4: 3 links make a junction, 2 do not.
func TestJunctions(t *testing.T) {
	for _, c := range []struct {
		t    api.Trap
		want []int
	}{
		{trap(1), nil},
		{along(0, 1, 2, 3, 4, 5), nil},
		{around(0, 1, 2, 3, 4, 5), nil},
		{cross(), []int{1}},
		{full(4), []int{0, 1, 2, 3}},
		{trap(6, [2]int{4, 5}, [2]int{3, 5}, [2]int{2, 5}, [2]int{0, 5}, [2]int{0, 1}, [2]int{0, 2}), []int{0, 5}},
	} {
		if got, e := zone.Junctions(c.t); !slices.Equal(got, c.want) || e != api.OK {
			t.Errorf("Junctions(%v) = %v, %v", c.t, got, e)
		}
	}
}
