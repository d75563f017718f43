package drift_test

import (
	"math"
	"slices"
	"testing"

	"quadrupole/api"
	"quadrupole/drift"
)

// made is the outcome of a call that makes readings.
type made struct {
	l readings
	e api.Errno
}

func makes(l readings, e api.Errno) made {
	return made{l, e}
}

// TestMakes is of P6.6: ordinary inputs, edge cases, and errors.
func TestMakes(t *testing.T) {
	edges := readings{reading(0, -1000, -1000), reading(1, -1000, 1000), reading(1000, 1000, 1000)}
	for i, c := range []struct {
		got  made
		want readings
		e    api.Errno
	}{
		{makes(drift.Turn(two())), readings{reading(996, 9, 10), reading(1000, 0, 1)}, api.OK},
		{makes(drift.Turn(one())), readings{reading(997, 0, 2)}, api.OK},
		{makes(drift.Turn(edges)), readings{reading(0, 1000, 1000), reading(999, -1000, 1000), reading(1000, -1000, -1000)}, api.OK},
		{makes(drift.Turn(readings{reading(500, 1, 2)})), readings{reading(500, 1, 2)}, api.OK},
		{makes(drift.Opposite(two())), readings{reading(0, -1, 0), reading(4, -10, -9)}, api.OK},
		{makes(drift.Opposite(one())), readings{reading(3, -2, 0)}, api.OK},
		{makes(drift.Opposite(edges)), readings{reading(0, 1000, 1000), reading(1, -1000, 1000), reading(1000, -1000, -1000)}, api.OK},
		{makes(drift.Shift(two(), 0)), two(), api.OK},
		{makes(drift.Shift(two(), 7)), readings{reading(7, 0, 1), reading(11, 9, 10)}, api.OK},
		{makes(drift.Shift(two(), 996)), readings{reading(996, 0, 1), reading(1000, 9, 10)}, api.OK},
		{makes(drift.Shift(two(), 997)), nil, api.ErrArg},
		{makes(drift.Shift(two(), -1)), nil, api.ErrArg},
		{makes(drift.Shift(one(), -3)), readings{reading(0, 0, 2)}, api.OK},
		{makes(drift.Shift(one(), -4)), nil, api.ErrArg},
		{makes(drift.Shift(one(), 997)), readings{reading(1000, 0, 2)}, api.OK},
		{makes(drift.Shift(one(), 998)), nil, api.ErrArg},
		{makes(drift.Shift(edges, 0)), edges, api.OK},
		{makes(drift.Shift(edges, 1)), nil, api.ErrArg},
		{makes(drift.Shift(edges, -1)), nil, api.ErrArg},
		{makes(drift.Without(two(), 0)), readings{reading(4, 9, 10)}, api.OK},
		{makes(drift.Without(two(), 1)), readings{reading(0, 0, 1)}, api.OK},
		{makes(drift.Without(edges, 0)), edges[1:], api.OK},
		{makes(drift.Without(edges, 1)), readings{edges[0], edges[2]}, api.OK},
		{makes(drift.Without(edges, 2)), edges[:2], api.OK},
		{makes(drift.Without(edges, 3)), nil, api.ErrNone},
		{makes(drift.Without(edges, -1)), nil, api.ErrNone},
		{makes(drift.Without(one(), 0)), nil, api.ErrRule},
		{makes(drift.Without(one(), 1)), nil, api.ErrNone},
		{makes(drift.Without(one(), -1)), nil, api.ErrNone},
	} {
		if !slices.Equal(c.got.l, c.want) || c.got.e != c.e {
			t.Errorf("%d: %v, want %v, %v", i, c.got, c.want, c.e)
		}
	}
}

// TestSumsAreExact is of P6.6 with R8: a number that is too great for the integers of the language is an error as well.
func TestSumsAreExact(t *testing.T) {
	for time := 0; time <= api.MaxValue; time += 8 {
		l := readings{reading(time, 1, 2)}
		for far := 0; far < 2200; far += 7 {
			for _, by := range []int{math.MaxInt - far, math.MinInt + far, math.MaxInt/2 - far, math.MinInt/2 + far} {
				if got, e := drift.Shift(l, by); len(got) != 0 || e != api.ErrArg {
					t.Fatalf("Shift(%v, %d) = %v, %v", l, by, got, e)
				}
			}
		}
	}
}

// TestTurnShiftAndOpposite is the consequence of P6.6: they change no Agree.
func TestTurnShiftAndOpposite(t *testing.T) {
	shifted := 0
	for _, s := range fewSamples() {
		want := must[bool](t)(drift.Agree(s.l, s.rate))
		turned, opposite := must[readings](t)(drift.Turn(s.l)), must[readings](t)(drift.Opposite(s.l))
		if again := must[readings](t)(drift.Turn(turned)); !slices.Equal(again, s.l) {
			t.Fatalf("Turn of Turn of %v: %v", s.l, again)
		}
		if again := must[readings](t)(drift.Opposite(opposite)); !slices.Equal(again, s.l) {
			t.Fatalf("Opposite of Opposite of %v: %v", s.l, again)
		}
		others := []readings{turned, opposite}
		for _, by := range []int{-900, -1, 2, 19, 900, api.MaxValue - s.l[len(s.l)-1].Time} {
			if other, e := drift.Shift(s.l, by); e == api.OK {
				others = append(others, other)
				shifted++
			}
		}
		for _, other := range others {
			if got := must[bool](t)(drift.Agree(other, s.rate)); got != want {
				t.Fatalf("Agree(%v) is %v, and of %v %v", s, want, other, got)
			}
		}
	}
	if shifted < 500 {
		t.Error(shifted)
	}
}

// TestWithoutAgrees is the consequence of P6.6: Without never makes readings disagree that agree.
func TestWithoutAgrees(t *testing.T) {
	agreed := 0
	for _, s := range fewSamples() {
		for k := range s.l {
			if len(s.l) == 1 {
				continue
			}
			left := must[readings](t)(drift.Without(s.l, k))
			if !slices.Equal(left, leftOut(s.l, k)) {
				t.Fatalf("Without(%v, %d) = %v", s.l, k, left)
			}
			if !must[bool](t)(drift.Agree(s.l, s.rate)) {
				continue
			}
			agreed++
			if !must[bool](t)(drift.Agree(left, s.rate)) {
				t.Fatalf("%v agree, and %v do not", s, left)
			}
		}
	}
	if agreed < 500 {
		t.Error(agreed)
	}
}

// readingsMade are the results of all functions that make readings.
func readingsMade(t *testing.T, l readings) []readings {
	t.Helper()
	return []readings{
		must[readings](t)(drift.Turn(l)),
		must[readings](t)(drift.Shift(l, 0)),
		must[readings](t)(drift.Shift(l, 5)),
		must[readings](t)(drift.Opposite(l)),
		must[readings](t)(drift.Without(l, 0)),
		must[readings](t)(drift.Without(l, len(l)-1)),
		mustBe[readings](t)(drift.Tight(l, 2)).value,
		mustBe[readings](t)(drift.Tight(l, 9)).value,
	}
}

// listsMade are the results of all functions that make numbers.
func listsMade(t *testing.T, l readings) [][]int {
	t.Helper()
	return [][]int{
		mustBe[[]int](t)(drift.Track(l, 2)).value,
		mustBe[[]int](t)(drift.Track(l, 9)).value,
		must[[]int](t)(drift.Needless(l, 2)),
		must[[]int](t)(drift.Needless(l, 9)),
	}
}

// TestNewMemory is of P6.4 to P6.6 with R5 and R11: no argument is changed, no result shares memory with one or with another result, and equal calls return equal results.
func TestNewMemory(t *testing.T) {
	l := append(two(), reading(6, 0, 90), reading(7, 7, 7))[:3]
	track := []int{1, 3, 5, 7, 9, 9, 9, 77}[:7]
	wantL, wantTrack := slices.Clone(l[:4]), slices.Clone(track[:8])
	drift.Shift(l, -1)
	drift.Agree(l, 0)
	drift.Clash(l, 0)
	drift.Slowest(l)
	drift.Steepest(l)
	drift.Bounds(l, 2, 1000)
	drift.Width(l, 2, 1000)
	drift.Until(l, 2, 1000)
	drift.CheckClash(l, 1, 1, 0)
	if e := drift.CheckTrack(l, 2, track); e != api.OK {
		t.Error(e)
	}
	made, madeAgain := readingsMade(t, l), readingsMade(t, l)
	lists, listsAgain := listsMade(t, l), listsMade(t, l)
	for i, m := range made {
		if len(m) == 0 || !slices.Equal(m, madeAgain[i]) {
			t.Errorf("the readings %d are %v, and then %v", i, m, madeAgain[i])
		}
		for k := range m[:cap(m)] {
			m[:cap(m)][k] = reading(77, 77, 77)
		}
	}
	for i, m := range lists {
		if len(m) == 0 || !slices.Equal(m, listsAgain[i]) {
			t.Errorf("the list %d is %v, and then %v", i, m, listsAgain[i])
		}
		for k := range m[:cap(m)] {
			m[:cap(m)][k] = 77
		}
	}
	for i, m := range readingsMade(t, l) {
		if !slices.Equal(m, madeAgain[i]) {
			t.Errorf("the readings %d are %v, and later %v", i, madeAgain[i], m)
		}
	}
	for i, m := range listsMade(t, l) {
		if !slices.Equal(m, listsAgain[i]) {
			t.Errorf("the list %d is %v, and later %v", i, listsAgain[i], m)
		}
	}
	if !slices.Equal(l[:4], wantL) || !slices.Equal(track[:8], wantTrack) {
		t.Errorf("the arguments are now %v, %v", l[:4], track[:8])
	}
}
