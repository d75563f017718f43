package zone_test

import (
	"slices"
	"testing"

	"quadrupole/api"
	"quadrupole/zone"
)

// TestFarAndPlan is of P3.3: Far and Plan to each place with as many ions.
func TestFarAndPlan(t *testing.T) {
	for _, s := range samples() {
		want := distances(s.t, s.at)
		for _, to := range everyPlace(s.t.Zones, len(s.at)) {
			moves, ok := want[key(to)]
			far := finds(zone.Far(s.t, s.at, to))
			plan := finds(zone.Plan(s.t, s.at, to))
			if far.value != moves || far.ok != ok || far.e != api.OK {
				t.Fatalf("Far(%v, %v) = %v, want %v, %v", s, to, far, moves, ok)
			}
			if len(plan.value) != moves || plan.ok != ok || plan.e != api.OK {
				t.Fatalf("Plan(%v, %v) = %v, want %v moves, %v", s, to, plan, moves, ok)
			}
			if !ok {
				continue
			}
			if end, n, e := zone.CheckPlan(s.t, s.at, plan.value); !slices.Equal(end, to) || n != moves || e != api.OK {
				t.Fatalf("Plan(%v, %v) = %v leads to %v, %v", s, to, plan.value, end, e)
			}
		}
	}
}

// TestReachAndFarthest is of P3.3.
func TestReachAndFarthest(t *testing.T) {
	for _, s := range samples() {
		want := distances(s.t, s.at)
		greatest := 0
		for _, moves := range want {
			greatest = max(greatest, moves)
		}
		if got, e := zone.Reach(s.t, s.at); got != len(want) || e != api.OK {
			t.Fatalf("Reach(%v) = %v, %v, want %v", s, got, e, len(want))
		}
		if got, e := zone.Farthest(s.t, s.at); got != greatest || e != api.OK {
			t.Fatalf("Farthest(%v) = %v, %v, want %v", s, got, e, greatest)
		}
	}
}

// TestReachOfSome is of P3.3: counts that are known beforehand.
func TestReachOfSome(t *testing.T) {
	for _, c := range []struct {
		t               api.Trap
		at              []int
		reach, farthest int
	}{
		{trap(1), nil, 1, 0},
		{trap(1), []int{0}, 1, 0},
		{trap(6), []int{5, 0, 3, 2}, 1, 0},
		{trap(6), nil, 1, 0},
		{along(0, 1, 2), []int{0, 1}, 3, 2},
		{along(0, 1, 2, 3, 4, 5), []int{0}, 6, 5},
		{along(0, 1, 2, 3, 4, 5), []int{3}, 6, 3},
		{along(0, 1, 2, 3, 4, 5), []int{0, 1, 2, 3}, 15, 8},
		{around(0, 1, 2, 3), []int{0, 1}, 12, 4},
		{around(0, 1, 2, 3), []int{0, 1, 2, 3}, 1, 0},
		{around(0, 1, 2, 3, 4, 5), []int{0, 1, 2, 3}, 60, 12},
		{full(4), []int{3, 1, 0, 2}, 1, 0},
		{full(6), []int{0}, 6, 1},
		{full(6), []int{3, 1, 0, 2}, 360, 6},
	} {
		reach, e := zone.Reach(c.t, c.at)
		farthest, f := zone.Farthest(c.t, c.at)
		if reach != c.reach || farthest != c.farthest || e != api.OK || f != api.OK {
			t.Errorf("%v, %v: Reach %v, %v, Farthest %v, %v", c.t, c.at, reach, e, farthest, f)
		}
	}
}

// TestFarBothWays is the consequence of P3.3: Far is the same in both directions, each place that is reached reaches as many, and a way over a third place is never shorter.
func TestFarBothWays(t *testing.T) {
	for i, s := range samples() {
		if i%9 != 0 {
			continue
		}
		reach := must[int](t)(zone.Reach(s.t, s.at))
		third := distances(s.t, s.at)
		for _, to := range everyPlace(s.t.Zones, len(s.at)) {
			there := finds(zone.Far(s.t, s.at, to))
			back := finds(zone.Far(s.t, to, s.at))
			if there != back {
				t.Fatalf("Far(%v, %v) = %v, and back %v", s, to, there, back)
			}
			if !there.ok {
				continue
			}
			if got := must[int](t)(zone.Reach(s.t, to)); got != reach {
				t.Fatalf("Reach of %v is %v, that of %v is %v", s, reach, to, got)
			}
			for _, over := range everyPlace(s.t.Zones, len(s.at))[:min(3, reach)] {
				rest := finds(zone.Far(s.t, over, to))
				if first, ok := third[key(over)]; ok != rest.ok || ok && first+rest.value < there.value {
					t.Fatalf("Far(%v, %v) = %v, but %v and %v over %v", s, to, there, first, rest, over)
				}
			}
		}
	}
}

// TestCanSwap is of P3.3.
func TestCanSwap(t *testing.T) {
	for _, s := range samples() {
		want := distances(s.t, s.at)
		for i := range s.at {
			for j := range s.at {
				to := slices.Clone(s.at)
				to[i], to[j] = to[j], to[i]
				_, ok := want[key(to)]
				if got, e := zone.CanSwap(s.t, s.at, i, j); got != ok || e != api.OK || i == j && !got {
					t.Fatalf("CanSwap(%v, %d, %d) = %v, %v, want %v", s, i, j, got, e, ok)
				}
			}
		}
	}
}

// TestCanSwapOfSome is of P3.3: on a line never, by a junction, and on a ring of two ions; three ions of a ring are only turned.
func TestCanSwapOfSome(t *testing.T) {
	for _, c := range []struct {
		t    api.Trap
		at   []int
		i, j int
		want bool
	}{
		{along(0, 1, 2), []int{0, 1}, 0, 1, false},
		{along(0, 1, 2), []int{0, 1}, 1, 1, true},
		{along(0, 1, 2), []int{0, 1, 2}, 2, 2, true},
		{cross(), []int{0, 1}, 0, 1, true},
		{cross(), []int{0, 1, 2}, 0, 2, false},
		{around(0, 1, 2, 3), []int{0, 1}, 1, 0, true},
		{around(0, 1, 2, 3), []int{0, 1, 2}, 0, 2, false},
		{around(0, 1, 2), []int{0, 1, 2}, 0, 1, false},
		{trap(2), []int{0, 1}, 0, 1, false},
		{trap(2), []int{0, 1}, 0, 0, true},
	} {
		if got, e := zone.CanSwap(c.t, c.at, c.i, c.j); got != c.want || e != api.OK {
			t.Errorf("CanSwap(%v, %v, %d, %d) = %v, %v", c.t, c.at, c.i, c.j, got, e)
		}
	}
}

// TestSamePlan is of P3.3 with R11: which plan there is is free, but it is the same one each time.
func TestSamePlan(t *testing.T) {
	for _, x := range []api.Trap{full(6), around(0, 1, 2, 3, 4, 5), full(5)} {
		for _, to := range everyPlace(x.Zones, 3) {
			first := finds(zone.Plan(x, []int{0, 1, 2}, to))
			for range 3 {
				if again := finds(zone.Plan(x, []int{0, 1, 2}, to)); !slices.Equal(again.value, first.value) || again.ok != first.ok {
					t.Fatalf("Plan(%v, %v) = %v and %v", x, to, first, again)
				}
			}
		}
	}
}
