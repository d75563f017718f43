package pulse_test

import (
	"slices"
	"testing"

	"quadrupole/api"
	"quadrupole/pulse"
)

// TestCheck is of P1.4.
func TestCheck(t *testing.T) {
	square := []int{1, 1, 1, 1}
	for i, c := range []struct {
		p, modes []int
		area     int
		want     api.Errno
	}{
		{square, []int{1, 2, 3}, 2, api.OK},
		{square, []int{1}, 2, api.OK},
		{square, []int{3}, -2, api.OK},
		{square, []int{2, 3}, 0, api.OK},
		{square, []int{2, 3}, -2, api.ErrProof},
		{square, []int{1, 3}, -2, api.ErrProof},
		{square, []int{1}, -2, api.ErrProof},
		{square, []int{0}, 0, api.ErrProof},
		{square, []int{0, 1}, 0, api.ErrProof},
		{[]int{1, 1}, []int{2, 3}, 0, api.ErrProof},
		{[]int{1, 1}, []int{1}, 1, api.ErrProof},
		{nil, []int{0, 1, 2, 3}, 0, api.OK},
		{nil, []int{0, 1, 2, 3}, 1, api.ErrProof},
		{longest, []int{1, 2, 3}, 6 * api.MaxForce * api.MaxForce, api.OK},
	} {
		if e := pulse.Check(c.p, c.modes, c.area); e != c.want {
			t.Errorf("%d: %v, want %v", i, e, c.want)
		}
	}
}

// closedBySteps reports whether p is closed in all modes.
func closedBySteps(p, modes []int) bool {
	return !slices.ContainsFunc(modes, func(mode int) bool {
		return pathBySteps(p, mode)[len(p)] != api.Point{}
	})
}

// areasBySteps is the set of the areas that the search finds.
func areasBySteps(modes []int, length, force int) []int {
	var areas []int
	for _, p := range everyPulse(length, force) {
		if closedBySteps(p, modes) {
			areas = append(areas, areaBySteps(p, modes[0]))
		}
	}
	slices.Sort(areas)
	return slices.Compact(areas)
}

// eachSearch calls f with the arguments of all searches.
func eachSearch(f func(modes []int, length, force int)) {
	for _, modes := range allSets() {
		for force := 1; force <= api.MaxPush; force++ {
			for length := range api.MaxSearch + 1 {
				f(modes, length, force)
			}
		}
	}
}

// TestAreasOfAllPulses is of P1.4: a brute search, by the meaning of the words.
func TestAreasOfAllPulses(t *testing.T) {
	eachSearch(func(modes []int, length, force int) {
		want := areasBySteps(modes, length, force)
		areas, e := pulse.Areas(modes, length, force)
		if !slices.Equal(areas, want) || e != api.OK {
			t.Fatalf("Areas(%v, %d, %d) = %v, %v, want %v", modes, length, force, areas, e, want)
		}
	})
}

// TestFind is of P1.4: a pulse of the search is found for each area that is there, and for no other one, the same one each time (R11).
func TestFind(t *testing.T) {
	eachSearch(func(modes []int, length, force int) {
		areas, _ := pulse.Areas(modes, length, force)
		for area := areas[0] - 2; area <= areas[len(areas)-1]+2; area++ {
			p, ok, e := pulse.Find(modes, area, length, force)
			if ok != slices.Contains(areas, area) || e != api.OK {
				t.Fatalf("Find(%v, %d, %d, %d) = %v, %v, %v", modes, area, length, force, p, ok, e)
			}
			if !ok {
				if len(p) > 0 {
					t.Fatalf("Find(%v, %d, %d, %d) = %v, false", modes, area, length, force, p)
				}
				continue
			}
			if len(p) != length || slices.ContainsFunc(p, func(x int) bool { return x < -force || x > force }) {
				t.Fatalf("Find(%v, %d, %d, %d) = %v is no pulse of the search", modes, area, length, force, p)
			}
			if !closedBySteps(p, modes) || areaBySteps(p, modes[0]) != area {
				t.Fatalf("Find(%v, %d, %d, %d) = %v is not closed, or has another area", modes, area, length, force, p)
			}
			if again, _, _ := pulse.Find(modes, area, length, force); !slices.Equal(again, p) {
				t.Fatalf("Find(%v, %d, %d, %d) = %v and %v", modes, area, length, force, p, again)
			}
		}
	})
}

// TestAreasHaveAnOrder is the consequence of P1.4 and S1.
func TestAreasHaveAnOrder(t *testing.T) {
	eachSearch(func(modes []int, length, force int) {
		areas, _ := pulse.Areas(modes, length, force)
		if !slices.Contains(areas, 0) {
			t.Fatalf("Areas(%v, %d, %d) = %v: there is no 0", modes, length, force, areas)
		}
		if length > 0 {
			shorter, _ := pulse.Areas(modes, length-1, force)
			for _, area := range shorter {
				if !slices.Contains(areas, area) {
					t.Fatalf("Areas(%v, %d, %d) = %v: there is no %d of a shorter length", modes, length, force, areas, area)
				}
			}
		}
		if slices.Contains(modes, 0) || slices.Contains(modes, 2) {
			return
		}
		for _, area := range areas {
			if !slices.Contains(areas, -area) {
				t.Fatalf("Areas(%v, %d, %d) = %v: there is no %d", modes, length, force, areas, -area)
			}
		}
	})
}

// TestShortest is of P1.4, with the example 3 of the chapter: a brute search.
func TestShortest(t *testing.T) {
	for _, modes := range allSets() {
		for force := 1; force <= api.MaxPush; force++ {
			length, ok, e := pulse.Shortest(modes, force)
			if want := shortestBySteps(modes, force); length != want || ok != (want > 0) || e != api.OK {
				t.Errorf("Shortest(%v, %d) = %d, %v, %v, want %d", modes, force, length, ok, e, want)
			}
		}
	}
	for _, c := range []struct {
		modes []int
		want  int
	}{{[]int{2}, 2}, {[]int{1}, 3}, {[]int{0, 1, 2, 3}, 5}} {
		if length, ok, e := pulse.Shortest(c.modes, 1); length != c.want || !ok || e != api.OK {
			t.Errorf("Shortest(%v, 1) = %d, %v, %v, want %d", c.modes, length, ok, e, c.want)
		}
	}
}

// shortestBySteps is 0 if there is none.
func shortestBySteps(modes []int, force int) int {
	for length := 1; length <= api.MaxSearch; length++ {
		for _, p := range everyPulse(length, force) {
			if !slices.Equal(p, make([]int, length)) && closedBySteps(p, modes) {
				return length
			}
		}
	}
	return 0
}

// TestModesStay is of P1.4 with R5: a search does not change its set.
func TestModesStay(t *testing.T) {
	modes := []int{1, 2, 3, 9}[:2]
	pulse.Areas(modes, 4, 1)
	pulse.Find(modes, 2, 4, 1)
	pulse.Shortest(modes, 1)
	pulse.Check([]int{1, 1, 1, 1}, modes, 2)
	if !slices.Equal(modes[:4], []int{1, 2, 3, 9}) {
		t.Error(modes[:4])
	}
}
