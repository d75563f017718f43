package pulse_test

import (
	"math"
	"slices"
	"testing"

	"quadrupole/api"
	"quadrupole/pulse"
)

var (
	longest = slices.Repeat([]int{api.MaxForce}, api.MaxSegments)
	tooLong = make([]int, api.MaxSegments+1)
	tooHard = []int{1, api.MaxForce + 1}
	tooLow  = []int{-api.MaxForce - 1, 1}
	tooMuch = slices.Repeat([]int{math.MaxInt}, api.MaxSegments+1) // too many segments, and each one too hard
)

// badSets are no sets of 1 to 4 modes.
func badSets() [][]int {
	return [][]int{nil, {}, {-1}, {4}, {0, 4}, {-1, 0}, {1, 1}, {2, 1}, {0, 1, 3, 2}, {0, 1, 2, 3, 4}, {0, 1, 2, 3, 3}, {math.MaxInt}, {math.MinInt, 0}}
}

// allSets are all sets of 1 to 4 modes.
func allSets() [][]int {
	var sets [][]int
	for bits := 1; bits < 16; bits++ {
		var set []int
		for mode := range 4 {
			if bits>>mode&1 == 1 {
				set = append(set, mode)
			}
		}
		sets = append(sets, set)
	}
	return sets
}

// TestValidate is of P1.1.
func TestValidate(t *testing.T) {
	for i, c := range []struct {
		p    []int
		want api.Errno
	}{
		{nil, api.OK},
		{[]int{}, api.OK},
		{[]int{0}, api.OK},
		{longest, api.OK},
		{[]int{-api.MaxForce, api.MaxForce}, api.OK},
		{tooLong, api.ErrLarge},
		{tooHard, api.ErrArg},
		{tooLow, api.ErrArg},
		{[]int{math.MaxInt}, api.ErrArg},
		{[]int{math.MinInt}, api.ErrArg},
		{tooMuch, api.ErrLarge},
	} {
		if e := pulse.Validate(c.p); e != c.want {
			t.Errorf("%d: %v, want %v", i, e, c.want)
		}
	}
}

// outcome is the error of a call, and whether all its other results are zero values.
type outcome struct {
	name  string
	e     api.Errno
	empty bool
}

// callsInMode are the functions of a pulse and a mode.
func callsInMode(p []int, mode int) []outcome {
	path, e1 := pulse.Path(p, mode)
	end, e2 := pulse.End(p, mode)
	area, e3 := pulse.Area(p, mode)
	sum, e4 := pulse.Sum(p, mode)
	return []outcome{
		{"Path", e1, len(path) == 0},
		{"End", e2, end == api.Point{}},
		{"Area", e3, area == 0},
		{"Sum", e4, sum == api.Point{}},
	}
}

// calls are the functions of a pulse; their other arguments are wrong if bad is true.
func calls(p []int, bad bool) []outcome {
	mode, by, segments, set := 1, 1, 0, []int{1}
	var q []int
	if bad {
		mode, by, segments, set, q = 4, 1000, -1, nil, tooMuch
	}
	closed, e1 := pulse.Closed(p)
	calm, e2 := pulse.Calm(p)
	scaled, e3 := pulse.Scale(p, by)
	back, e4 := pulse.Back(p)
	delayed, e5 := pulse.Delay(p, segments)
	joined, e6 := pulse.Join(p, q)
	added, e7 := pulse.Add(p, q)
	return append(callsInMode(p, mode),
		outcome{"Closed", e1, len(closed) == 0},
		outcome{"Calm", e2, len(calm) == 0},
		outcome{"Scale", e3, len(scaled) == 0},
		outcome{"Back", e4, len(back) == 0},
		outcome{"Delay", e5, len(delayed) == 0},
		outcome{"Join", e6, len(joined) == 0},
		outcome{"Add", e7, len(added) == 0},
		outcome{"Check", pulse.Check(p, set, 1), true},
	)
}

func wantAll(t *testing.T, all []outcome, want api.Errno) {
	t.Helper()
	for _, c := range all {
		if c.e != want || !c.empty {
			t.Errorf("%s: error %v, want %v; other results are zero values: %v", c.name, c.e, want, c.empty)
		}
	}
}

// TestPulseErrorsComeFirst is of P1.1 with R2 and R3.
func TestPulseErrorsComeFirst(t *testing.T) {
	for _, c := range []struct {
		p    []int
		want api.Errno
	}{{tooLong, api.ErrLarge}, {tooMuch, api.ErrLarge}, {tooHard, api.ErrArg}, {tooLow, api.ErrArg}} {
		wantAll(t, calls(c.p, false), c.want)
		wantAll(t, calls(c.p, true), c.want)
	}
}

// TestErrorsOfTwoPulses is of P1.1 with R2: all errors of the first pulse come before those of the second one.
func TestErrorsOfTwoPulses(t *testing.T) {
	for _, c := range []struct {
		p, q []int
		want api.Errno
	}{
		{tooHard, tooLong, api.ErrArg},
		{tooLong, tooHard, api.ErrLarge},
		{longest, tooHard, api.ErrArg},
		{[]int{1}, tooLong, api.ErrLarge},
		{nil, tooLow, api.ErrArg},
	} {
		joined, e := pulse.Join(c.p, c.q)
		added, f := pulse.Add(c.p, c.q)
		wantAll(t, []outcome{{"Join", e, len(joined) == 0}, {"Add", f, len(added) == 0}}, c.want)
	}
}

// TestModeErrors is of P1.1.
func TestModeErrors(t *testing.T) {
	for _, mode := range []int{-1, 4, math.MinInt, math.MaxInt} {
		wantAll(t, callsInMode([]int{1, 2}, mode), api.ErrArg)
		wantAll(t, callsInMode(nil, mode), api.ErrArg)
	}
	for mode := range 4 {
		for _, c := range callsInMode([]int{1, 2}, mode) {
			if c.e != api.OK {
				t.Errorf("%s in the mode %d: %v", c.name, mode, c.e)
			}
		}
	}
}

// searches are the functions that search.
func searches(modes []int, length, force int) []outcome {
	areas, e1 := pulse.Areas(modes, length, force)
	found, ok, e2 := pulse.Find(modes, 0, length, force)
	return []outcome{
		{"Areas", e1, len(areas) == 0},
		{"Find", e2, len(found) == 0 && !ok},
	}
}

func shortest(modes []int, force int) outcome {
	length, ok, e := pulse.Shortest(modes, force)
	return outcome{"Shortest", e, length == 0 && !ok}
}

// TestSearchErrors is of P1.1.
func TestSearchErrors(t *testing.T) {
	for _, modes := range badSets() {
		wantAll(t, searches(modes, 2, 1), api.ErrArg)
		wantAll(t, []outcome{shortest(modes, 1), {"Check", pulse.Check([]int{1, 1}, modes, 0), true}}, api.ErrArg)
	}
	for _, length := range []int{-1, api.MaxSearch + 1, math.MinInt, math.MaxInt} {
		wantAll(t, searches([]int{1}, length, 1), api.ErrArg)
	}
	for _, force := range []int{-1, 0, api.MaxPush + 1, math.MinInt, math.MaxInt} {
		wantAll(t, append(searches([]int{1}, 2, force), shortest([]int{1}, force)), api.ErrArg)
	}
}

// TestAnyAreaMayBeAskedFor is of P1.1.
func TestAnyAreaMayBeAskedFor(t *testing.T) {
	for _, area := range []int{math.MinInt, -1000, 1000, math.MaxInt} {
		if e := pulse.Check([]int{1, 1, 1, 1}, []int{1}, area); e != api.ErrProof {
			t.Errorf("Check of the area %d: %v", area, e)
		}
		p, ok, e := pulse.Find([]int{1}, area, 4, 1)
		wantAll(t, []outcome{{"Find", e, len(p) == 0 && !ok}}, api.OK)
	}
}
