package heat_test

import (
	"math"
	"slices"
	"testing"

	"quadrupole/api"
	"quadrupole/heat"
)

// noActs are no acts of n ions.
func noActs(n int) acts {
	var all acts
	for _, kind := range []int{-1, 3, math.MinInt, math.MaxInt} {
		all = append(all, api.Act{Kind: kind})
	}
	for kind := range 3 {
		for _, ion := range []int{-1, n, math.MinInt, math.MaxInt} {
			all = append(all, api.Act{Kind: kind, Ion: ion})
		}
		for _, by := range []int{-1, api.MaxHeat + 1, math.MinInt, math.MaxInt} {
			all = append(all, api.Act{Kind: kind, Heat: by})
		}
	}
	for _, by := range []int{1, 50, api.MaxHeat} {
		all = append(all, api.Act{Kind: 2, Heat: by})
	}
	return all
}

// TestActs is of P4.1: what is an act, and what is none, at each place of a plan.
func TestActs(t *testing.T) {
	for n := 1; n <= api.MaxQubits; n++ {
		for ion := range n {
			for _, a := range []api.Act{cool(ion), move(ion, 0), gate(ion, 0), move(ion, 1), gate(ion, 50), move(ion, 100), gate(ion, 100)} {
				if e := heat.Validate(n, acts{move(0, 1), a}); e != api.OK {
					t.Errorf("%v of %d ions: %v", a, n, e)
				}
			}
		}
		for _, a := range noActs(n) {
			for i, plan := range []acts{{a}, {a, gate(0, 1)}, {gate(0, 1), a}} {
				if e := heat.Validate(n, plan); e != api.ErrArg {
					t.Errorf("%d: %v of %d ions: %v", i, a, n, e)
				}
			}
		}
	}
}

// outcome is the error of a call, and whether all its other results are zero values.
type outcome struct {
	name  string
	e     api.Errno
	empty bool
}

// callsBy are the functions that are given a limit; their other arguments are wrong if bad is true.
func callsBy(n int, plan acts, limit int, bad bool) []outcome {
	with, l := plan, []api.Window(nil)
	if bad {
		with, l = make(acts, 2*api.MaxActs+1), make([]api.Window, api.MaxActs+1)
	}
	hot, e1 := heat.Hot(n, plan, limit)
	fits, e2 := heat.Fits(n, plan, limit)
	fewest, e3 := heat.Fewest(n, plan, limit)
	inserted, e4 := heat.Insert(n, plan, limit)
	coolings, e5 := heat.CheckInsert(n, plan, with, limit)
	windows, e6 := heat.CheckWindows(n, plan, limit, l)
	apart, e7 := heat.Windows(n, plan, limit)
	return []outcome{
		{"Hot", e1, len(hot) == 0},
		{"Fits", e2, !fits},
		{"Fewest", e3, fewest == 0},
		{"Insert", e4, len(inserted) == 0},
		{"CheckInsert", e5, coolings == 0},
		{"CheckWindows", e6, windows == 0},
		{"Windows", e7, len(apart) == 0},
	}
}

// callsWithout are the functions that are not given a limit; their other arguments are wrong if bad is true.
func callsWithout(n int, plan acts, bad bool) []outcome {
	ion, by := 0, 1
	if bad {
		ion, by = -1, -1
	}
	trace, e1 := heat.Trace(n, plan)
	peak, e2 := heat.Peak(n, plan)
	least, e3 := heat.Least(n, plan)
	curve, e4 := heat.Curve(n, plan)
	only, e5 := heat.Only(n, plan, ion)
	joined, e6 := heat.Join(n, plan, nil)
	second, e7 := heat.Join(n, nil, plan)
	uncooled, e8 := heat.Uncool(n, plan)
	scaled, e9 := heat.Scale(n, plan, by)
	return []outcome{
		{"Validate", heat.Validate(n, plan), true},
		{"Trace", e1, len(trace) == 0},
		{"Peak", e2, peak == 0},
		{"Least", e3, least == 0},
		{"Curve", e4, len(curve) == 0},
		{"Only", e5, len(only) == 0},
		{"Join", e6, len(joined) == 0},
		{"Join", e7, len(second) == 0},
		{"Uncool", e8, len(uncooled) == 0},
		{"Scale", e9, len(scaled) == 0},
	}
}

func wantAll(t *testing.T, all []outcome, want api.Errno) {
	t.Helper()
	for _, c := range all {
		if c.e != want || want != api.OK && !c.empty {
			t.Errorf("%s: error %v, want %v; other results are zero values: %v", c.name, c.e, want, c.empty)
		}
	}
}

var (
	full    = slices.Repeat(acts{gate(0, 100), cool(0)}, api.MaxActs/2)
	tooMany = append(slices.Clone(full), cool(0))
	badAct  = acts{gate(0, 1), {Kind: 2, Heat: 1}}
)

// TestPlanErrorsComeFirst is of P4.1 with R2 and R3.
func TestPlanErrorsComeFirst(t *testing.T) {
	for _, c := range []struct {
		n    int
		plan acts
		want api.Errno
	}{
		{0, nil, api.ErrArg},
		{5, nil, api.ErrArg},
		{-1, tooMany, api.ErrArg},
		{0, tooMany, api.ErrArg},
		{5, tooMany, api.ErrArg},
		{math.MinInt, tooMany, api.ErrArg},
		{math.MaxInt, full, api.ErrArg},
		{1, tooMany, api.ErrLarge},
		{4, append(slices.Clone(tooMany), badAct...), api.ErrLarge},
		{1, make(acts, 1000), api.ErrLarge},
		{1, badAct, api.ErrArg},
		{1, acts{gate(0, 5), gate(1, 1)}, api.ErrArg},
	} {
		for _, limit := range []int{0, api.MaxHeat, -1, api.MaxHeat + 1} {
			wantAll(t, callsBy(c.n, c.plan, limit, false), c.want)
			wantAll(t, callsBy(c.n, c.plan, limit, true), c.want)
		}
		wantAll(t, callsWithout(c.n, c.plan, false), c.want)
		wantAll(t, callsWithout(c.n, c.plan, true), c.want)
	}
}

// TestLimits is of P4.1: the errors of a limit come next, before those of other arguments.
func TestLimits(t *testing.T) {
	for _, limit := range []int{-1, api.MaxHeat + 1, math.MinInt, math.MaxInt} {
		for _, plan := range []acts{nil, full} {
			wantAll(t, callsBy(1, plan, limit, false), api.ErrArg)
			wantAll(t, callsBy(1, plan, limit, true), api.ErrArg)
		}
	}
	for _, limit := range []int{0, 1, api.MaxHeat} {
		wantAll(t, callsBy(1, nil, limit, false), api.OK)
		wantAll(t, callsBy(4, full, limit, false), api.OK)
	}
	wantAll(t, callsWithout(1, nil, false), api.OK)
	wantAll(t, callsWithout(4, full, false), api.OK)
}

// TestErrorsOfJoin is of P4.1 with R2: all errors of the first plan come before those of the second one, and these before that of too many acts.
func TestErrorsOfJoin(t *testing.T) {
	for i, c := range []struct {
		plan, more acts
		want       api.Errno
	}{
		{badAct, tooMany, api.ErrArg},
		{tooMany, badAct, api.ErrLarge},
		{full, badAct, api.ErrArg},
		{badAct, full, api.ErrArg},
		{full, tooMany, api.ErrLarge},
		{full, acts{cool(0)}, api.ErrLarge},
		{full, nil, api.OK},
	} {
		got, e := heat.Join(1, c.plan, c.more)
		if e != c.want || e != api.OK && len(got) != 0 {
			t.Errorf("%d: %v, %v", i, got, e)
		}
	}
}
