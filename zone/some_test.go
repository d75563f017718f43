package zone_test

import (
	"math/rand"
	"slices"
	"testing"

	"quadrupole/api"
	"quadrupole/zone"
)

// trap makes a trap of zones and of pairs of them that have a link.
func trap(zones int, pairs ...[2]int) api.Trap {
	t := api.Trap{Zones: zones}
	for _, p := range pairs {
		t.Links = append(t.Links, api.Link{A: p[0], B: p[1]})
	}
	return t
}

// along makes a line of the zones in an order.
func along(order ...int) api.Trap {
	t := api.Trap{Zones: len(order)}
	for i := range len(order) - 1 {
		t.Links = append(t.Links, linkOf(order[i], order[i+1]))
	}
	return t
}

// around makes a ring of the zones in an order.
func around(order ...int) api.Trap {
	t := along(order...)
	t.Links = append(t.Links, linkOf(order[0], order[len(order)-1]))
	return t
}

func linkOf(a, b int) api.Link {
	return api.Link{A: min(a, b), B: max(a, b)}
}

// cross is a line 0 1 2 with a zone 3 near to 1.
func cross() api.Trap {
	return trap(4, [2]int{0, 1}, [2]int{1, 2}, [2]int{1, 3})
}

// full is the trap in which each zone has a link with each other one.
func full(zones int) api.Trap {
	t := api.Trap{Zones: zones}
	for a := range zones {
		for b := a + 1; b < zones; b++ {
			t.Links = append(t.Links, api.Link{A: a, B: b})
		}
	}
	return t
}

// everyTrap lists the traps of a number of zones, with the links in ascending order.
func everyTrap(zones int) []api.Trap {
	all := full(zones).Links
	var traps []api.Trap
	for bits := range 1 << len(all) {
		t := api.Trap{Zones: zones}
		for i, l := range all {
			if bits>>i&1 == 1 {
				t.Links = append(t.Links, l)
			}
		}
		traps = append(traps, t)
	}
	return traps
}

// everyPlace lists the places of a number of ions.
func everyPlace(zones, ions int) [][]int {
	if ions == 0 {
		return [][]int{nil}
	}
	var all [][]int
	for _, at := range everyPlace(zones, ions-1) {
		for z := range zones {
			if !slices.Contains(at, z) {
				all = append(all, append(slices.Clone(at), z))
			}
		}
	}
	return all
}

// largeTraps are traps of 5 and 6 zones: regular ones, and others with few and many links, the same ones each time, with the links in any order.
func largeTraps() []api.Trap {
	traps := []api.Trap{
		along(4, 2, 0, 1, 3), along(5, 3, 1, 0, 2, 4), around(0, 3, 1, 4, 2), around(0, 5, 1, 4, 2, 3), full(5), full(6), trap(6),
		trap(6, [2]int{2, 3}, [2]int{0, 2}, [2]int{1, 2}, [2]int{3, 5}, [2]int{3, 4}),
	}
	r := rand.New(rand.NewSource(3))
	for zones := 5; zones <= api.MaxZones; zones++ {
		for range 6 {
			t := full(zones)
			r.Shuffle(len(t.Links), func(i, j int) { t.Links[i], t.Links[j] = t.Links[j], t.Links[i] })
			t.Links = t.Links[:zones-2+r.Intn(4)]
			traps = append(traps, t)
		}
	}
	return traps
}

// sample is a trap with a place.
type sample struct {
	t  api.Trap
	at []int
}

// samples are all places of all traps of up to 4 zones, and some places of larger ones.
func samples() []sample {
	var all []sample
	for zones := 1; zones <= 4; zones++ {
		for _, t := range everyTrap(zones) {
			for ions := range zones + 1 {
				for _, at := range everyPlace(zones, ions) {
					all = append(all, sample{t, at})
				}
			}
		}
	}
	for _, t := range largeTraps() {
		for ions := 1; ions <= api.MaxIons; ions++ {
			places := everyPlace(t.Zones, ions)
			for i := range 3 {
				all = append(all, sample{t, places[(i*37+11)%len(places)]})
			}
		}
	}
	return all
}

func hasLink(t api.Trap, a, b int) bool {
	return a != b && slices.Contains(t.Links, linkOf(a, b))
}

// movesOf tells the moves of a place by the words of the chapter, in ascending order.
func movesOf(t api.Trap, at []int) []api.Move {
	var moves []api.Move
	for ion := range at {
		for z := range t.Zones {
			if hasLink(t, at[ion], z) && !slices.Contains(at, z) {
				moves = append(moves, api.Move{Ion: ion, To: z})
			}
		}
	}
	return moves
}

// key tells places apart.
func key(at []int) string {
	text := ""
	for _, z := range at {
		text += string(rune('0' + z))
	}
	return text
}

// distances tells how many moves it takes to reach each place that at reaches.
func distances(t api.Trap, at []int) map[string]int {
	far := map[string]int{key(at): 0}
	round := [][]int{at}
	for moves := 1; len(round) > 0; moves++ {
		var next [][]int
		for _, from := range round {
			for _, m := range movesOf(t, from) {
				to := slices.Clone(from)
				to[m.Ion] = m.To
				if _, ok := far[key(to)]; !ok {
					far[key(to)] = moves
					next = append(next, to)
				}
			}
		}
		round = next
	}
	return far
}

// must returns the value of a call that gave no error.
func must[T any](t *testing.T) func(T, api.Errno) T {
	return func(value T, e api.Errno) T {
		t.Helper()
		if e != api.OK {
			t.Fatal(e)
		}
		return value
	}
}

// found is the outcome of a call that may find nothing.
type found[T any] struct {
	value T
	ok    bool
	e     api.Errno
}

func finds[T any](value T, ok bool, e api.Errno) found[T] {
	return found[T]{value, ok, e}
}

// sequenceOf returns the Sequence of a place of a line or a ring.
func sequenceOf(t *testing.T, x api.Trap, at []int) []int {
	t.Helper()
	s := finds(zone.Sequence(x, at))
	if !s.ok || s.e != api.OK {
		t.Fatalf("Sequence(%v, %v): %v", x, at, s)
	}
	return s.value
}
