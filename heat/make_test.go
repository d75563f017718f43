package heat_test

import (
	"math"
	"slices"
	"testing"

	"quadrupole/api"
	"quadrupole/heat"
)

// made is the outcome of a call that makes a plan.
type made struct {
	plan acts
	e    api.Errno
}

func makes(plan acts, e api.Errno) made {
	return made{plan, e}
}

// TestMakes is of P4.5: ordinary inputs, edge cases, and errors.
func TestMakes(t *testing.T) {
	plan := wide()
	full := slices.Repeat(acts{gate(0, 1), cool(0)}, api.MaxActs/2)
	for i, c := range []struct {
		got  made
		want acts
		e    api.Errno
	}{
		{makes(heat.Only(2, plan, 0)), acts{move(0, 3), gate(0, 1), gate(0, 4), gate(0, 1)}, api.OK},
		{makes(heat.Only(2, plan, 1)), acts{move(1, 6), cool(1), gate(1, 2)}, api.OK},
		{makes(heat.Only(3, plan, 2)), nil, api.OK},
		{makes(heat.Only(1, nil, 0)), nil, api.OK},
		{makes(heat.Join(2, plan[:2], plan[3:5])), acts{move(0, 3), move(1, 6), cool(1), gate(1, 2)}, api.OK},
		{makes(heat.Join(2, plan, nil)), plan, api.OK},
		{makes(heat.Join(2, nil, plan)), plan, api.OK},
		{makes(heat.Join(2, nil, nil)), nil, api.OK},
		{makes(heat.Join(1, full[:7], full[7:])), full, api.OK},
		{makes(heat.Join(1, full, nil)), full, api.OK},
		{makes(heat.Join(1, full, full[:1])), nil, api.ErrLarge},
		{makes(heat.Join(1, full[:1], full)), nil, api.ErrLarge},
		{makes(heat.Join(1, full, full)), nil, api.ErrLarge},
		{makes(heat.Uncool(2, plan)), acts{move(0, 3), move(1, 6), gate(0, 1), gate(1, 2), gate(0, 4), gate(0, 1)}, api.OK},
		{makes(heat.Uncool(1, full)), slices.Repeat(acts{gate(0, 1)}, api.MaxActs/2), api.OK},
		{makes(heat.Uncool(2, acts{cool(1), cool(0)})), nil, api.OK},
		{makes(heat.Uncool(1, acts{move(0, 0), gate(0, 0)})), acts{move(0, 0), gate(0, 0)}, api.OK},
		{makes(heat.Uncool(1, nil)), nil, api.OK},
	} {
		if !slices.Equal(c.got.plan, c.want) || c.got.e != c.e {
			t.Errorf("%d: %v, want %v, %v", i, c.got, c.want, c.e)
		}
	}
}

// TestOnlyErrors is of P4.1: there is no such ion.
func TestOnlyErrors(t *testing.T) {
	for n := 1; n <= api.MaxQubits; n++ {
		for _, ion := range []int{-1, n, math.MinInt, math.MaxInt} {
			for _, plan := range []acts{nil, {gate(0, 1)}} {
				if got, e := heat.Only(n, plan, ion); len(got) != 0 || e != api.ErrNone {
					t.Errorf("Only of the ion %d of %d: %v, %v", ion, n, got, e)
				}
			}
		}
	}
}

// TestScale is of P4.5: the products are exact, also those beyond the integers of the language.
func TestScale(t *testing.T) {
	plan, cold := acts{move(0, 5), cool(0), gate(1, 20)}, acts{move(0, 0), cool(0), gate(0, 0)}
	for i, c := range []struct {
		plan acts
		by   int
		want acts
		e    api.Errno
	}{
		{plan, 1, plan, api.OK},
		{plan, 2, acts{move(0, 10), cool(0), gate(1, 40)}, api.OK},
		{plan, 5, acts{move(0, 25), cool(0), gate(1, 100)}, api.OK},
		{plan, 0, acts{move(0, 0), cool(0), gate(1, 0)}, api.OK},
		{plan, 6, nil, api.ErrArg},
		{plan, -1, nil, api.ErrArg},
		{acts{move(0, 1)}, 100, acts{move(0, 100)}, api.OK},
		{acts{move(0, 1)}, 101, nil, api.ErrArg},
		{acts{move(0, 3)}, 33, acts{move(0, 99)}, api.OK},
		{acts{move(0, 3)}, 34, nil, api.ErrArg},
		{acts{move(0, 100)}, 1, acts{move(0, 100)}, api.OK},
		{acts{move(0, 100)}, 2, nil, api.ErrArg},
		{acts{gate(0, 4)}, 1 << 62, nil, api.ErrArg},
		{acts{gate(0, 64)}, 1 << 58, nil, api.ErrArg},
		{acts{gate(0, 2)}, math.MinInt, nil, api.ErrArg},
		{acts{gate(0, 2)}, math.MaxInt, nil, api.ErrArg},
		{acts{gate(0, 2)}, math.MinInt + 1, nil, api.ErrArg},
		{cold, 7, cold, api.OK},
		{cold, -7, cold, api.OK},
		{cold, math.MinInt, cold, api.OK},
		{cold, math.MaxInt, cold, api.OK},
		{nil, math.MinInt, nil, api.OK},
		{append(slices.Clone(cold), gate(0, 1)), -1, nil, api.ErrArg},
	} {
		if got, e := heat.Scale(2, c.plan, c.by); !slices.Equal(got, c.want) || e != c.e {
			t.Errorf("%d: %v, %v, want %v, %v", i, got, e, c.want, c.e)
		}
	}
}

// TestFewestOfUncool is the consequence of P4.5.
func TestFewestOfUncool(t *testing.T) {
	for _, s := range samples() {
		uncooled := must[acts](t)(heat.Uncool(s.n, s.plan))
		coolings := len(s.plan) - len(uncooled)
		for _, limit := range someLimits() {
			fewest := must[int](t)(heat.Fewest(s.n, s.plan, limit))
			without := must[int](t)(heat.Fewest(s.n, uncooled, limit))
			if without < fewest || without > fewest+coolings {
				t.Fatalf("Fewest(%v, %d) is %d, and without the %d coolings %d", s, limit, fewest, coolings, without)
			}
		}
	}
}

// TestFewestOfScale is the consequence of P4.5.
func TestFewestOfScale(t *testing.T) {
	scaled := 0
	for _, s := range samples() {
		for _, by := range []int{1, 2, 3, 7, 33, 100} {
			other, e := heat.Scale(s.n, s.plan, by)
			if e != api.OK {
				continue
			}
			for _, limit := range someLimits() {
				if limit*by > api.MaxHeat {
					break
				}
				fewest := must[int](t)(heat.Fewest(s.n, s.plan, limit))
				if got := must[int](t)(heat.Fewest(s.n, other, limit*by)); got != fewest {
					t.Fatalf("Fewest(%v, %d) is %d, and of Scale by %d %d", s, limit, fewest, by, got)
				}
				scaled++
			}
		}
	}
	if scaled < 10000 {
		t.Error(scaled)
	}
}

// plansMade are the results of all functions that make plans.
func plansMade(t *testing.T, plan, more acts) []acts {
	t.Helper()
	return []acts{
		must[acts](t)(heat.Insert(2, plan, 0)),
		must[acts](t)(heat.Insert(2, plan, api.MaxHeat)),
		must[acts](t)(heat.Only(2, plan, 0)),
		must[acts](t)(heat.Only(2, plan[:1], 0)),
		must[acts](t)(heat.Join(2, plan, more)),
		must[acts](t)(heat.Join(2, plan, nil)),
		must[acts](t)(heat.Join(2, nil, plan)),
		must[acts](t)(heat.Uncool(2, plan)),
		must[acts](t)(heat.Uncool(2, plan[:1])),
		must[acts](t)(heat.Scale(2, plan, 1)),
		must[acts](t)(heat.Scale(2, plan, 3)),
	}
}

// TestNewMemory is of P4.2 to P4.5 with R5 and R11: no argument is changed, no result shares memory with one or with another result, and equal calls return equal results.
func TestNewMemory(t *testing.T) {
	plan := append(wide(), move(0, 7), gate(1, 7))[:7]
	more := acts{cool(1), gate(0, 2), gate(1, 7)}[:2]
	with := append(must[acts](t)(heat.Insert(2, plan, 3)), gate(1, 7), gate(1, 8))
	l := append(must[[]api.Window](t)(heat.Windows(2, plan, 3)), api.Window{Ion: 7})
	with, l = with[:len(with)-2], l[:len(l)-1]
	wantPlan, wantMore := slices.Clone(plan[:9]), slices.Clone(more[:3])
	wantWith, wantL := slices.Clone(with[:len(with)+2]), slices.Clone(l[:len(l)+1])
	heat.Scale(2, plan, 99)
	heat.Curve(2, plan)
	heat.CheckInsert(2, plan, with, 3)
	heat.CheckWindows(2, plan, 3, l)
	all, again := plansMade(t, plan, more), plansMade(t, plan, more)
	for i, m := range all {
		if len(m) == 0 || !slices.Equal(m, again[i]) {
			t.Errorf("the result %d is %v, and then %v", i, m, again[i])
		}
		for k := range m[:cap(m)] {
			m[:cap(m)][k] = move(1, 77)
		}
	}
	for i, m := range plansMade(t, plan, more) {
		if !slices.Equal(m, again[i]) {
			t.Errorf("the result %d is %v, and later %v", i, again[i], m)
		}
	}
	if !slices.Equal(plan[:9], wantPlan) || !slices.Equal(more[:3], wantMore) {
		t.Errorf("the arguments are now %v, %v", plan[:9], more[:3])
	}
	if !slices.Equal(with[:len(with)+2], wantWith) || !slices.Equal(l[:len(l)+1], wantL) {
		t.Errorf("the arguments are now %v, %v", with[:len(with)+2], l[:len(l)+1])
	}
	trace := must[[][]int](t)(heat.Trace(2, plan))
	trace[0] = append(trace[0], 77)
	trace[0][0] = 77
	if !slices.Equal(trace[1], []int{3, 6}) {
		t.Errorf("two parts of Trace share memory: %v", trace)
	}
}
