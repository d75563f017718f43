package heat_test

import (
	"slices"
	"testing"

	"quadrupole/api"
	"quadrupole/heat"
)

// wide is a plan of two ions that are in use by turns.
func wide() acts {
	return acts{move(0, 3), move(1, 6), gate(0, 1), cool(1), gate(1, 2), gate(0, 4), gate(0, 1)}
}

// TestTrace is of P4.2: all ions, also those without acts.
func TestTrace(t *testing.T) {
	for i, c := range []struct {
		n    int
		plan acts
		want [][]int
	}{
		{1, nil, nil},
		{4, nil, nil},
		{1, acts{move(0, 5), gate(0, 2), cool(0), gate(0, 0)}, [][]int{{5}, {7}, {0}, {0}}},
		{3, acts{gate(1, 100), cool(0), gate(1, 100)}, [][]int{{0, 100, 0}, {0, 100, 0}, {0, 200, 0}}},
		{2, wide(), [][]int{{3, 0}, {3, 6}, {4, 6}, {4, 0}, {4, 2}, {8, 2}, {9, 2}}},
	} {
		if got, e := heat.Trace(c.n, c.plan); !slices.EqualFunc(got, c.want, slices.Equal[[]int]) || e != api.OK {
			t.Errorf("%d: %v, %v", i, got, e)
		}
	}
}

// TestTraceAndPeak is of P4.2, by the words of the chapter.
func TestTraceAndPeak(t *testing.T) {
	for _, s := range samples() {
		trace := must[[][]int](t)(heat.Trace(s.n, s.plan))
		if len(trace) != len(s.plan) {
			t.Fatalf("Trace of %v has %d parts", s, len(trace))
		}
		peak := 0
		for i, heats := range trace {
			if len(heats) != s.n {
				t.Fatalf("Trace of %v, %d: %v", s, i, heats)
			}
			for ion, got := range heats {
				want := heatAfter(s.plan[:i+1], ion)
				if got != want {
					t.Fatalf("Trace of %v, %d: the ion %d has %d, want %d", s, i, ion, got, want)
				}
				peak = max(peak, want)
			}
		}
		if got := must[int](t)(heat.Peak(s.n, s.plan)); got != peak {
			t.Fatalf("Peak of %v: %d, want %d", s, got, peak)
		}
	}
}

// TestHotAndFits is of P4.2, by the words of the chapter.
func TestHotAndFits(t *testing.T) {
	for _, s := range samples() {
		for _, limit := range someLimits() {
			want := hotGates(s.plan, limit)
			if got := must[[]int](t)(heat.Hot(s.n, s.plan, limit)); !slices.Equal(got, want) {
				t.Fatalf("Hot(%v, %d) = %v, want %v", s, limit, got, want)
			}
			if got := must[bool](t)(heat.Fits(s.n, s.plan, limit)); got != (len(want) == 0) {
				t.Fatalf("Fits(%v, %d) = %v, and too hot are %v", s, limit, got, want)
			}
		}
	}
}

// TestHeatsOfSome is of P4.2: the edges of the limit, and a Least above MaxHeat.
func TestHeatsOfSome(t *testing.T) {
	full := slices.Repeat(acts{gate(3, api.MaxHeat)}, api.MaxActs)
	for i, c := range []struct {
		n           int
		plan        acts
		limit       int
		hot         []int
		peak, least int
	}{
		{1, nil, 0, nil, 0, 0},
		{1, acts{move(0, 5), gate(0, 2)}, 4, []int{1}, 7, 5},
		{1, acts{move(0, 5), gate(0, 2)}, 5, nil, 7, 5},
		{1, acts{move(0, 5), gate(0, 2)}, 0, []int{1}, 7, 5},
		{1, acts{move(0, 3), gate(0, 2), gate(0, 2)}, 4, []int{2}, 7, 5},
		{1, acts{gate(0, 100)}, 0, nil, 100, 0},
		{1, acts{move(0, 100), move(0, 100)}, 0, nil, 200, 0},
		{2, acts{move(0, 5), gate(1, 2)}, 0, nil, 5, 0},
		{2, acts{move(0, 5), cool(1), gate(0, 2)}, 4, []int{2}, 7, 5},
		{2, acts{move(0, 5), cool(0), gate(0, 2)}, 0, nil, 5, 0},
		{2, acts{move(0, 5), gate(0, 0), cool(0), gate(0, 2), gate(0, 0)}, 1, []int{1, 4}, 5, 5},
		{2, wide(), 3, []int{5, 6}, 9, 8},
		{4, full, 100, []int{2, 3, 4, 5, 6, 7, 8, 9, 10, 11, 12, 13, 14, 15, 16, 17, 18, 19}, 2000, 1900},
	} {
		hot, e1 := heat.Hot(c.n, c.plan, c.limit)
		fits, e2 := heat.Fits(c.n, c.plan, c.limit)
		peak, e3 := heat.Peak(c.n, c.plan)
		least, e4 := heat.Least(c.n, c.plan)
		if !slices.Equal(hot, c.hot) || fits != (len(c.hot) == 0) || peak != c.peak || least != c.least || e1 != api.OK || e2 != api.OK || e3 != api.OK || e4 != api.OK {
			t.Errorf("%d: Hot %v, %v; Fits %v, %v; Peak %d, %v; Least %d, %v", i, hot, e1, fits, e2, peak, e3, least, e4)
		}
	}
}

// TestLeast is of P4.2: no gate is too hot by Least, one is by anything below it; so a plan that fits a limit fits every greater one.
func TestLeast(t *testing.T) {
	for _, s := range samples() {
		least := must[int](t)(heat.Least(s.n, s.plan))
		if len(hotGates(s.plan, least)) > 0 || least < 0 || least > 0 && len(hotGates(s.plan, least-1)) == 0 {
			t.Fatalf("Least of %v: %d", s, least)
		}
		for limit := range api.MaxHeat + 1 {
			if fits := must[bool](t)(heat.Fits(s.n, s.plan, limit)); fits != (limit >= least) {
				t.Fatalf("Fits(%v, %d) = %v, and Least is %d", s, limit, fits, least)
			}
		}
	}
}
