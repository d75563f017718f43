package pulse_test

import (
	"math"
	"slices"
	"testing"

	"quadrupole/api"
	"quadrupole/pulse"
)

// made is the outcome of a call that makes a pulse.
type made struct {
	p []int
	e api.Errno
}

func makes(p []int, e api.Errno) made {
	return made{p, e}
}

// TestMakes is of P1.3: ordinary inputs, edge cases, and errors.
func TestMakes(t *testing.T) {
	half := slices.Repeat([]int{1}, api.MaxSegments/2)
	full := slices.Repeat([]int{1}, api.MaxSegments)
	for i, c := range []struct {
		got  made
		want []int
		e    api.Errno
	}{
		{makes(pulse.Scale([]int{1, -2, 0}, -3)), []int{-3, 6, 0}, api.OK},
		{makes(pulse.Scale([]int{5, -7}, 0)), []int{0, 0}, api.OK},
		{makes(pulse.Scale([]int{33, -33}, 3)), []int{99, -99}, api.OK},
		{makes(pulse.Scale([]int{1, -1}, -99)), []int{-99, 99}, api.OK},
		{makes(pulse.Scale([]int{50, 1}, 2)), nil, api.ErrArg},
		{makes(pulse.Scale([]int{1, -50}, 2)), nil, api.ErrArg},
		{makes(pulse.Scale([]int{1}, 100)), nil, api.ErrArg},
		{makes(pulse.Scale([]int{0, 4}, math.MinInt)), nil, api.ErrArg},
		{makes(pulse.Scale([]int{4}, 1<<62)), nil, api.ErrArg},
		{makes(pulse.Scale([]int{0, 0}, math.MinInt)), []int{0, 0}, api.OK},
		{makes(pulse.Scale(nil, math.MaxInt)), nil, api.OK},
		{makes(pulse.Add([]int{1, -2}, []int{3, 4})), []int{4, 2}, api.OK},
		{makes(pulse.Add([]int{98, -98}, []int{1, -1})), []int{99, -99}, api.OK},
		{makes(pulse.Add([]int{0, 99}, []int{0, 1})), nil, api.ErrArg},
		{makes(pulse.Add([]int{-99}, []int{-1})), nil, api.ErrArg},
		{makes(pulse.Add([]int{99}, []int{1, 2})), nil, api.ErrFit},
		{makes(pulse.Add([]int{99}, nil)), nil, api.ErrFit},
		{makes(pulse.Add(nil, []int{})), nil, api.OK},
		{makes(pulse.Back([]int{1, 2, 3})), []int{3, 2, 1}, api.OK},
		{makes(pulse.Back([]int{1, 2, 3, -4})), []int{-4, 3, 2, 1}, api.OK},
		{makes(pulse.Back(nil)), nil, api.OK},
		{makes(pulse.Delay([]int{1}, 2)), []int{0, 0, 1}, api.OK},
		{makes(pulse.Delay([]int{1, 2}, 0)), []int{1, 2}, api.OK},
		{makes(pulse.Delay(nil, api.MaxSegments)), make([]int, api.MaxSegments), api.OK},
		{makes(pulse.Delay([]int{3}, api.MaxSegments-1)), append(make([]int, api.MaxSegments-1), 3), api.OK},
		{makes(pulse.Delay([]int{3}, api.MaxSegments)), nil, api.ErrLarge},
		{makes(pulse.Delay([]int{3}, api.MaxSegments+1)), nil, api.ErrArg},
		{makes(pulse.Delay([]int{3}, -1)), nil, api.ErrArg},
		{makes(pulse.Delay(full, math.MaxInt)), nil, api.ErrArg},
		{makes(pulse.Delay(full, math.MinInt)), nil, api.ErrArg},
		{makes(pulse.Join([]int{1}, []int{2, 3})), []int{1, 2, 3}, api.OK},
		{makes(pulse.Join(half, half)), full, api.OK},
		{makes(pulse.Join(full, nil)), full, api.OK},
		{makes(pulse.Join(nil, nil)), nil, api.OK},
		{makes(pulse.Join(full, []int{0})), nil, api.ErrLarge},
		{makes(pulse.Join([]int{0}, full)), nil, api.ErrLarge},
	} {
		if !slices.Equal(c.got.p, c.want) || c.got.e != c.e {
			t.Errorf("%d: %v, want %v, %v", i, c.got, c.want, c.e)
		}
	}
}

// must returns a pulse that was made without an error.
func must(t *testing.T, m made) []int {
	t.Helper()
	if m.e != api.OK {
		t.Fatal(m.e)
	}
	return m.p
}

// TestScaleBackDelay is of P1.3: their consequences.
func TestScaleBackDelay(t *testing.T) {
	for _, p := range everyPulse(4, 2) {
		modes := mustClosed(t, p)
		back := must(t, makes(pulse.Back(p)))
		if got := mustClosed(t, back); !slices.Equal(got, modes) {
			t.Fatalf("Closed of %v: %v, and back: %v", p, modes, got)
		}
		for mode := range 4 {
			area := mustArea(t, p, mode)
			for _, by := range []int{-3, 0, 2} {
				if got := mustArea(t, must(t, makes(pulse.Scale(p, by))), mode); got != by*by*area {
					t.Fatalf("Area of %v in the mode %d: %d, and scaled by %d: %d", p, mode, area, by, got)
				}
			}
			if got := mustArea(t, back, mode); got != area {
				t.Fatalf("Area of %v in the mode %d: %d, and back: %d", p, mode, area, got)
			}
		}
		for segments := range 6 {
			delayed := must(t, makes(pulse.Delay(p, segments)))
			if got := mustClosed(t, delayed); !slices.Equal(got, modes) {
				t.Fatalf("Closed of %v: %v, and delayed by %d: %v", p, modes, segments, got)
			}
			if mustArea(t, delayed, 1) != mustArea(t, p, 1) || mustArea(t, delayed, 3) != mustArea(t, p, 3) {
				t.Fatalf("Area of %v delayed by %d", p, segments)
			}
		}
	}
}

// TestJoinedLoops is of P1.3 and S1: ends add up, and areas if one of the pulses is closed.
func TestJoinedLoops(t *testing.T) {
	var all [][]int
	for length := range 5 {
		all = append(all, everyPulse(length, 1)...)
	}
	for _, p := range all {
		for _, q := range all {
			joined := must(t, makes(pulse.Join(p, q)))
			for mode := range 4 {
				first, second := mustEnd(t, p, mode), mustEnd(t, q, mode)
				turned := pulse.Turn(second, mode*len(p))
				want := api.Point{X: first.X + turned.X, Y: first.Y + turned.Y}
				if end := mustEnd(t, joined, mode); end != want {
					t.Fatalf("End of %v and %v in the mode %d: %v, want %v", p, q, mode, end, want)
				}
				if first != (api.Point{}) && second != (api.Point{}) {
					continue
				}
				if mustArea(t, joined, mode) != mustArea(t, p, mode)+mustArea(t, q, mode) {
					t.Fatalf("Area of %v and %v in the mode %d: %d", p, q, mode, mustArea(t, joined, mode))
				}
			}
		}
	}
}

// TestNewMemory is of P1.3 with R5: no argument is changed, and no result shares memory with one.
func TestNewMemory(t *testing.T) {
	p, q := []int{1, 2, 3, 4, 5, 6}[:3], []int{-1, -2, -3, -4}[:3]
	for i, m := range []made{
		makes(pulse.Scale(p, 1)),
		makes(pulse.Back(p)),
		makes(pulse.Delay(p, 0)),
		makes(pulse.Join(p, nil)),
		makes(pulse.Join(nil, p)),
		makes(pulse.Join(p, q)),
		makes(pulse.Add(p, q)),
	} {
		for j := range must(t, m) {
			m.p[j] = 77
		}
		if !slices.Equal(p[:6], []int{1, 2, 3, 4, 5, 6}) || !slices.Equal(q[:4], []int{-1, -2, -3, -4}) {
			t.Fatalf("%d: the arguments are now %v, %v", i, p[:6], q[:4])
		}
	}
}
