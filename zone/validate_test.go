package zone_test

import (
	"math"
	"slices"
	"testing"

	"quadrupole/api"
	"quadrupole/zone"
)

// badTrap is a trap with an error.
type badTrap struct {
	t    api.Trap
	want api.Errno
}

// badTraps are traps with errors, also with several.
func badTraps() []badTrap {
	return []badTrap{
		{trap(0), api.ErrArg},
		{trap(-1), api.ErrArg},
		{trap(7), api.ErrArg},
		{trap(math.MinInt), api.ErrArg},
		{trap(math.MaxInt), api.ErrArg},
		{trap(0, [2]int{0, 1}, [2]int{0, 1}), api.ErrArg},
		{trap(7, [2]int{0, 1}, [2]int{0, 1}), api.ErrArg},
		{trap(1, [2]int{0, 0}), api.ErrArg},
		{trap(1, [2]int{0, 1}), api.ErrArg},
		{trap(2, [2]int{1, 0}), api.ErrArg},
		{trap(3, [2]int{1, 1}), api.ErrArg},
		{trap(3, [2]int{-1, 1}), api.ErrArg},
		{trap(3, [2]int{-2, -1}), api.ErrArg},
		{trap(3, [2]int{2, 3}), api.ErrArg},
		{trap(3, [2]int{3, 4}), api.ErrArg},
		{trap(3, [2]int{math.MinInt, 1}), api.ErrArg},
		{trap(3, [2]int{1, math.MaxInt}), api.ErrArg},
		{trap(3, [2]int{0, 1}, [2]int{1, 2}, [2]int{2, 1}), api.ErrArg},
		{trap(3, [2]int{0, 1}, [2]int{0, 1}, [2]int{0, 3}), api.ErrArg},
		{trap(2, [2]int{0, 1}, [2]int{0, 1}), api.ErrTwice},
		{trap(3, [2]int{1, 2}, [2]int{0, 1}, [2]int{1, 2}), api.ErrTwice},
		{api.Trap{Zones: 6, Links: slices.Repeat(full(6).Links, 1000)}, api.ErrTwice},
	}
}

// TestValidate is of P3.1.
func TestValidate(t *testing.T) {
	for i, c := range badTraps() {
		if e := zone.Validate(c.t); e != c.want {
			t.Errorf("%d: %v, want %v", i, e, c.want)
		}
	}
	for zones := 1; zones <= 5; zones++ {
		for _, x := range everyTrap(zones) {
			if e := zone.Validate(x); e != api.OK {
				t.Errorf("%v: %v", x, e)
			}
		}
	}
	for _, x := range largeTraps() {
		if e := zone.Validate(x); e != api.OK {
			t.Errorf("%v: %v", x, e)
		}
	}
}

// badPlace is a place of 3 zones with an error.
type badPlace struct {
	at   []int
	want api.Errno
}

func badPlaces() []badPlace {
	return []badPlace{
		{[]int{0, 1, 2, 3, 4}, api.ErrLarge},
		{make([]int, 5), api.ErrLarge},
		{slices.Repeat([]int{-1}, 1000), api.ErrLarge},
		{[]int{3}, api.ErrArg},
		{[]int{-1}, api.ErrArg},
		{[]int{0, 3}, api.ErrArg},
		{[]int{0, 0, 3}, api.ErrArg},
		{[]int{-1, 1, 1}, api.ErrArg},
		{[]int{math.MinInt}, api.ErrArg},
		{[]int{math.MaxInt}, api.ErrArg},
		{[]int{0, 1, 2, 3}, api.ErrArg},
		{[]int{0, 0}, api.ErrTwice},
		{[]int{2, 1, 2}, api.ErrTwice},
		{[]int{2, 1, 0, 1}, api.ErrTwice},
	}
}

// TestValidatePlace is of P3.1: the errors of a trap come first.
func TestValidatePlace(t *testing.T) {
	for i, c := range badPlaces() {
		if e := zone.ValidatePlace(along(0, 1, 2), c.at); e != c.want {
			t.Errorf("%d: %v, want %v", i, e, c.want)
		}
		for _, bad := range badTraps() {
			if e := zone.ValidatePlace(bad.t, c.at); e != bad.want {
				t.Errorf("%d: %v, want %v of the trap %v", i, e, bad.want, bad.t)
			}
		}
	}
	for _, s := range samples() {
		if e := zone.ValidatePlace(s.t, s.at); e != api.OK {
			t.Errorf("%v: %v", s, e)
		}
	}
}

// outcome is the error of a call, and whether all its other results are zero values.
type outcome struct {
	name  string
	e     api.Errno
	empty bool
}

func isNoTrap(t api.Trap) bool {
	return t.Zones == 0 && len(t.Links) == 0
}

// callsOfTrap are the functions of a trap alone; their other arguments are wrong.
func callsOfTrap(t api.Trap) []outcome {
	near, e1 := zone.Near(t, -1)
	line, isLine, e2 := zone.Line(t)
	ring, isRing, e3 := zone.Ring(t)
	junctions, e4 := zone.Junctions(t)
	without, e5 := zone.Without(t, -1)
	renamed, e6 := zone.Rename(t, []int{7})
	return []outcome{
		{"Near", e1, len(near) == 0},
		{"Line", e2, len(line) == 0 && !isLine},
		{"Ring", e3, len(ring) == 0 && !isRing},
		{"Junctions", e4, len(junctions) == 0},
		{"Without", e5, isNoTrap(without)},
		{"Rename", e6, isNoTrap(renamed)},
	}
}

// callsOfPlace are the functions of a trap and a place; their other arguments are wrong.
func callsOfPlace(t api.Trap, at []int) []outcome {
	tooMany := make([]api.Move, api.MaxMoves+1)
	free, e1 := zone.Free(t, at)
	moves, e2 := zone.Moves(t, at)
	end, count, e3 := zone.CheckPlan(t, at, tooMany)
	reach, e4 := zone.Reach(t, at)
	farthest, e5 := zone.Farthest(t, at)
	swap, e6 := zone.CanSwap(t, at, -1, 9)
	ions, isOrder, e7 := zone.Sequence(t, at)
	back, e8 := zone.Back(t, at, tooMany)
	return []outcome{
		{"Free", e1, len(free) == 0},
		{"Moves", e2, len(moves) == 0},
		{"CheckPlan", e3, len(end) == 0 && count == 0},
		{"Reach", e4, reach == 0},
		{"Farthest", e5, farthest == 0},
		{"CanSwap", e6, !swap},
		{"Sequence", e7, len(ions) == 0 && !isOrder},
		{"Back", e8, len(back) == 0},
	}
}

// callsOfTwo are the functions of a trap and two places.
func callsOfTwo(t api.Trap, at, to []int) []outcome {
	far, ok, e1 := zone.Far(t, at, to)
	plan, found, e2 := zone.Plan(t, at, to)
	return []outcome{{"Far", e1, far == 0 && !ok}, {"Plan", e2, len(plan) == 0 && !found}}
}

func wantAll(t *testing.T, all []outcome, want api.Errno) {
	t.Helper()
	for _, c := range all {
		if c.e != want || want != api.OK && !c.empty {
			t.Errorf("%s: error %v, want %v; other results are zero values: %v", c.name, c.e, want, c.empty)
		}
	}
}

// TestTrapErrorsComeFirst is of P3.1 with R2 and R3.
func TestTrapErrorsComeFirst(t *testing.T) {
	for _, bad := range badTraps() {
		wantAll(t, callsOfTrap(bad.t), bad.want)
		for _, at := range [][]int{nil, {0}, {-1}, make([]int, 5)} {
			wantAll(t, callsOfPlace(bad.t, at), bad.want)
			wantAll(t, callsOfTwo(bad.t, at, []int{0, 1}), bad.want)
			wantAll(t, callsOfTwo(bad.t, []int{0, 1}, at), bad.want)
		}
	}
}

// TestPlaceErrorsComeNext is of P3.1 with R2 and R3: before those of other arguments, and those of a first place before those of a second one.
func TestPlaceErrorsComeNext(t *testing.T) {
	x := along(0, 1, 2)
	for _, bad := range badPlaces() {
		wantAll(t, callsOfPlace(x, bad.at), bad.want)
		for _, good := range [][]int{nil, {0, 1}} {
			wantAll(t, callsOfTwo(x, bad.at, good), bad.want)
			wantAll(t, callsOfTwo(x, good, bad.at), bad.want)
		}
		for _, other := range badPlaces() {
			wantAll(t, callsOfTwo(x, bad.at, other.at), bad.want)
		}
	}
}

// TestFit is of P3.1: two places have equally many ions.
func TestFit(t *testing.T) {
	for _, c := range []struct {
		at, to []int
		want   api.Errno
	}{
		{nil, []int{0}, api.ErrFit},
		{[]int{0}, nil, api.ErrFit},
		{[]int{0, 1}, []int{0, 1, 2}, api.ErrFit},
		{[]int{2, 1, 0}, []int{0}, api.ErrFit},
		{[]int{1}, []int{1, 0}, api.ErrFit},
		{nil, []int{}, api.OK},
		{[]int{2}, []int{0}, api.OK},
	} {
		wantAll(t, callsOfTwo(along(0, 1, 2), c.at, c.to), c.want)
	}
}

// outside are numbers that are none from 0 to count - 1.
func outside(count int) []int {
	return []int{-1, count, math.MinInt, math.MaxInt}
}

// TestNone is of P3.1: there is no such zone, ion, or link.
func TestNone(t *testing.T) {
	x := cross()
	for _, z := range outside(x.Zones) {
		if near, e := zone.Near(x, z); len(near) != 0 || e != api.ErrNone {
			t.Errorf("Near %d: %v, %v", z, near, e)
		}
	}
	for _, k := range outside(len(x.Links)) {
		if without, e := zone.Without(x, k); !isNoTrap(without) || e != api.ErrNone {
			t.Errorf("Without %d: %v, %v", k, without, e)
		}
	}
	if without, e := zone.Without(trap(3), 0); !isNoTrap(without) || e != api.ErrNone {
		t.Errorf("Without, of no links: %v, %v", without, e)
	}
	for _, at := range [][]int{nil, {0}, {1, 3}, {0, 1, 2, 3}} {
		for _, i := range outside(len(at)) {
			for _, pair := range [][2]int{{i, i}, {0, i}, {i, 0}} {
				if is, e := zone.CanSwap(x, at, pair[0], pair[1]); is || e != api.ErrNone {
					t.Errorf("CanSwap of %v: %v, %v, %v", at, pair, is, e)
				}
			}
		}
	}
}
