package heat_test

import (
	"slices"
	"testing"

	"quadrupole/api"
	"quadrupole/heat"
)

// TestFewest is of P4.3: with so many coolings the plan can be made to fit, and with one fewer it cannot.
func TestFewest(t *testing.T) {
	for _, s := range shortSamples() {
		for limit := range 5 {
			got := must[int](t)(heat.Fewest(s.n, s.plan, limit))
			if got < 0 || got > 4 || !can(s.n, s.plan, limit, got) || got > 0 && can(s.n, s.plan, limit, got-1) {
				t.Fatalf("Fewest(%v, %d) = %d", s, limit, got)
			}
		}
	}
}

// TestFewestOfSome is of P4.3.
func TestFewestOfSome(t *testing.T) {
	full := slices.Repeat(acts{gate(0, api.MaxHeat)}, api.MaxActs)
	for i, c := range []struct {
		n     int
		plan  acts
		limit int
		want  int
	}{
		{1, nil, 0, 0},
		{1, acts{move(0, 5), gate(0, 2)}, 4, 1},
		{1, acts{move(0, 5), gate(0, 2)}, 5, 0},
		{1, acts{move(0, 3), gate(0, 2), gate(0, 2)}, 4, 1},
		{1, acts{move(0, 5), gate(0, 0), gate(0, 0), gate(0, 5)}, 4, 1},
		{1, acts{move(0, 5), gate(0, 5), gate(0, 5)}, 4, 2},
		{1, acts{gate(0, 3), gate(0, 3), gate(0, 3), gate(0, 3)}, 5, 1},
		{1, acts{move(0, 9), move(0, 9)}, 0, 0},
		{1, full, 100, 9},
		{1, full, 99, 19},
		{1, full, 0, 19},
		{2, acts{gate(1, 4), gate(0, 4), gate(1, 4), gate(0, 4)}, 3, 2},
		{2, wide(), 3, 2},
		{2, wide(), 4, 1},
		{2, wide(), 0, 3},
	} {
		if got, e := heat.Fewest(c.n, c.plan, c.limit); got != c.want || e != api.OK {
			t.Errorf("%d: Fewest is %d, %v, want %d", i, got, e, c.want)
		}
	}
}

// TestInsertAndWindows is of P4.3, P4.4 and S4: Insert has put in Fewest coolings and fits, and there are as many windows of which no two meet. That these are so many shows that there are no fewer coolings, and the coolings that there are no more windows.
func TestInsertAndWindows(t *testing.T) {
	for _, s := range samples() {
		for _, limit := range someLimits() {
			fewest := must[int](t)(heat.Fewest(s.n, s.plan, limit))
			with := must[acts](t)(heat.Insert(s.n, s.plan, limit))
			if len(with) != len(s.plan)+fewest || !isLeft(s.plan, with) || len(hotGates(with, limit)) > 0 {
				t.Fatalf("Insert(%v, %d) = %v; Fewest is %d", s, limit, with, fewest)
			}
			if got, e := heat.CheckInsert(s.n, s.plan, with, limit); got != fewest || e != api.OK {
				t.Fatalf("CheckInsert(%v, %d) of Insert, %v: %d, %v", s, limit, with, got, e)
			}
			l := must[[]api.Window](t)(heat.Windows(s.n, s.plan, limit))
			for i, w := range l {
				if !isWindow(s.plan, limit, w) || slices.ContainsFunc(l[:i], func(v api.Window) bool { return doMeet(v, w) }) {
					t.Fatalf("Windows(%v, %d) = %v", s, limit, l)
				}
			}
			if got, e := heat.CheckWindows(s.n, s.plan, limit, l); len(l) != fewest || got != fewest || e != api.OK {
				t.Fatalf("CheckWindows(%v, %d) of Windows, %v: %d, %v; Fewest is %d", s, limit, l, got, e, fewest)
			}
		}
	}
}

// TestFewestNeverGrows is of P4.3, and of the Curve of P4.5: Fewest does not grow with the limit, and is the sum of those of the ions.
func TestFewestNeverGrows(t *testing.T) {
	for _, s := range samples() {
		before := api.MaxActs
		for limit := 0; limit <= api.MaxHeat; limit += 1 + limit/9 {
			fewest := must[int](t)(heat.Fewest(s.n, s.plan, limit))
			sum := 0
			for ion := range s.n {
				only := must[acts](t)(heat.Only(s.n, s.plan, ion))
				sum += must[int](t)(heat.Fewest(s.n, only, limit))
			}
			if fewest > before || fewest != sum {
				t.Fatalf("Fewest(%v, %d) = %d; before it was %d, and the sum of the ions is %d", s, limit, fewest, before, sum)
			}
			before = fewest
		}
	}
}

// TestCheckInsert is of P4.3, by the words of the chapter: all short plans with all short lists.
func TestCheckInsert(t *testing.T) {
	of := acts{gate(0, 2), move(1, 1), cool(0), cool(1)}
	var plans, lists []acts
	for length := range 5 {
		lists = append(lists, everyPlan(length, of...)...)
	}
	for length := range 4 {
		plans = append(plans, everyPlan(length, of...)...)
	}
	for _, plan := range plans {
		for _, with := range lists {
			for _, limit := range []int{1, 2} {
				want, e := len(with)-len(plan), api.OK
				if !isLeft(plan, with) {
					want, e = 0, api.ErrFit
				} else if len(hotGates(with, limit)) > 0 {
					want, e = 0, api.ErrRule
				}
				if got, f := heat.CheckInsert(2, plan, with, limit); got != want || f != e {
					t.Fatalf("CheckInsert(%v, %v, %d) = %d, %v, want %d, %v", plan, with, limit, got, f, want, e)
				}
			}
		}
	}
}

// TestCheckInsertOfSome is of P4.3: what is allowed, and the order of the errors.
func TestCheckInsertOfSome(t *testing.T) {
	plan := acts{move(0, 5), gate(0, 2)}
	cooled := acts{move(0, 5), cool(0), gate(0, 2)}
	full := slices.Repeat(acts{move(1, 1)}, api.MaxActs)
	tooMany := slices.Repeat(acts{cool(0)}, 2*api.MaxActs+1)
	for i, c := range []struct {
		plan, with acts
		limit      int
		want       int
		e          api.Errno
	}{
		{plan, cooled, 4, 1, api.OK},
		{plan, cooled, 0, 1, api.OK},
		{plan, acts{cool(1), move(0, 5), cool(0), cool(0), gate(0, 2), cool(1)}, 4, 4, api.OK},
		{plan, plan, 5, 0, api.OK},
		{plan, plan, 4, 0, api.ErrRule},
		{plan, acts{cool(0), move(0, 5), gate(0, 2), cool(0)}, 4, 0, api.ErrRule},
		{plan, acts{move(0, 5), cool(1), gate(0, 2)}, 4, 0, api.ErrRule},
		{plan, nil, 5, 0, api.ErrFit},
		{nil, nil, 0, 0, api.OK},
		{nil, acts{cool(0), cool(1)}, 0, 2, api.OK},
		{nil, plan, 5, 0, api.ErrFit},
		{plan, acts{move(0, 5), gate(0, 1)}, 5, 0, api.ErrFit},
		{plan, acts{move(0, 5), gate(1, 2)}, 5, 0, api.ErrFit},
		{plan, acts{gate(0, 5), gate(0, 2)}, 5, 0, api.ErrFit},
		{plan, acts{gate(0, 2), move(0, 5)}, 5, 0, api.ErrFit},
		{plan, acts{move(0, 5), gate(0, 2), gate(0, 2)}, 0, 0, api.ErrFit},
		{plan, acts{move(0, 5), gate(0, 2), move(1, 0)}, 0, 0, api.ErrFit},
		{cooled, plan, 4, 0, api.ErrFit},
		{cooled, acts{move(0, 5), cool(1), gate(0, 2)}, 5, 0, api.ErrFit},
		{cooled, acts{move(0, 5), cool(0), cool(0), gate(0, 2)}, 0, 1, api.OK},
		{acts{cool(0), cool(1)}, acts{cool(1), cool(0), cool(0), cool(1)}, 0, 2, api.OK},
		{acts{cool(0), cool(1)}, acts{cool(1), cool(0)}, 0, 0, api.ErrFit},
		{full, append(slices.Repeat(acts{cool(0)}, api.MaxActs), full...), 0, api.MaxActs, api.OK},
		{nil, tooMany[1:], 0, 2 * api.MaxActs, api.OK},
		{nil, tooMany, 0, 0, api.ErrLarge},
		{plan, make(acts, 2*api.MaxActs+1), 5, 0, api.ErrLarge},
		{plan, append(slices.Clone(tooMany), move(2, 5)), 5, 0, api.ErrLarge},
		{plan, tooMany, -1, 0, api.ErrArg},
		{plan, tooMany, api.MaxHeat + 1, 0, api.ErrArg},
		{plan, acts{gate(0, 2), gate(2, 2)}, 5, 0, api.ErrArg},
		{nil, acts{cool(0), {Kind: 2, Ion: 0, Heat: 1}}, 5, 0, api.ErrArg},
	} {
		if got, e := heat.CheckInsert(2, c.plan, c.with, c.limit); got != c.want || e != c.e {
			t.Errorf("%d: %d, %v, want %d, %v", i, got, e, c.want, c.e)
		}
	}
}

// TestNoActsOfWith is of P4.3: what is no act of a plan is none of with.
func TestNoActsOfWith(t *testing.T) {
	for n := 1; n <= api.MaxQubits; n++ {
		for _, a := range noActs(n) {
			for _, with := range []acts{{a}, {a, gate(0, 1)}, {gate(0, 1), a}} {
				if got, e := heat.CheckInsert(n, acts{gate(0, 1)}, with, 0); got != 0 || e != api.ErrArg {
					t.Errorf("%v of %d ions: %d, %v", a, n, got, e)
				}
			}
		}
	}
}

// TestCurve is of P4.5: as far as the first limit without coolings, and at most as far as MaxHeat.
func TestCurve(t *testing.T) {
	for _, s := range samples() {
		curve := must[[]int](t)(heat.Curve(s.n, s.plan))
		least := must[int](t)(heat.Least(s.n, s.plan))
		if len(curve) != min(least, api.MaxHeat)+1 {
			t.Fatalf("Curve of %v, of which Least is %d: %v", s, least, curve)
		}
		for limit, got := range curve {
			if want := must[int](t)(heat.Fewest(s.n, s.plan, limit)); got != want {
				t.Fatalf("Curve of %v: %d for %d, want %d", s, got, limit, want)
			}
		}
	}
}

// TestCurveOfSome is of P4.5.
func TestCurveOfSome(t *testing.T) {
	for _, c := range []struct {
		plan acts
		want []int
	}{
		{nil, []int{0}},
		{acts{gate(0, 100)}, []int{0}},
		{acts{move(0, 100), move(1, 100)}, []int{0}},
		{acts{move(0, 5), gate(0, 2)}, []int{1, 1, 1, 1, 1, 0}},
		{acts{move(0, 3), gate(0, 2), gate(0, 2)}, []int{2, 2, 1, 1, 1, 0}},
		{wide(), []int{3, 2, 2, 2, 1, 1, 1, 1, 0}},
		{acts{move(0, 100), gate(0, 0)}, append(slices.Repeat([]int{1}, 100), 0)},
		{acts{move(0, 100), move(0, 1), gate(0, 0)}, slices.Repeat([]int{1}, 101)},
		{acts{gate(0, 100), gate(0, 100), gate(0, 100)}, append(slices.Repeat([]int{2}, 100), 1)},
	} {
		if got, e := heat.Curve(2, c.plan); !slices.Equal(got, c.want) || e != api.OK {
			t.Errorf("Curve of %v: %v, %v", c.plan, got, e)
		}
	}
}
