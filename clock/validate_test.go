package clock_test

import (
	"math"
	"slices"
	"testing"

	"quadrupole/api"
	"quadrupole/clock"
)

// noJobs are no jobs.
func noJobs() jobs {
	all := jobs{{}, job(0, 0, 1), job(1, 1, 1), job(60, 60, 1), job(2, 1, 1), job(60, 59, 1), job(60, 61, 1), job(59, 61, 1), job(-1, 0, 1), job(-1, 60, 1), job(0, 1, 0), job(0, 60, 61), job(0, 60, -1)}
	for _, x := range []int{math.MinInt, math.MaxInt} {
		all = append(all, job(x, 5, 1), job(0, x, 1), job(0, 5, x), job(x, x, 1), job(x, -1-x, 1), job(x, x, x))
	}
	return all
}

// TestJobs is of P5.1: what is a job, and what is none, at each place of a list.
func TestJobs(t *testing.T) {
	for _, j := range []api.Job{job(0, 1, 1), job(0, 60, 1), job(59, 60, 1), job(0, 1, 60), job(59, 60, 60), job(0, 60, 60), job(12, 34, 56)} {
		for i, l := range []jobs{{j}, {j, j}, slices.Repeat(jobs{j}, api.MaxJobs)} {
			if e := clock.Validate(l); e != api.OK {
				t.Errorf("%d: %v: %v", i, j, e)
			}
		}
	}
	for _, j := range noJobs() {
		for i, l := range []jobs{{j}, {j, job(0, 1, 1)}, {job(0, 1, 1), j}, append(slices.Repeat(jobs{job(0, 1, 1)}, api.MaxJobs-1), j)} {
			if e := clock.Validate(l); e != api.ErrArg {
				t.Errorf("%d: %v: %v", i, j, e)
			}
		}
	}
}

// outcome is the error of a call, and whether all its other results are zero values.
type outcome struct {
	name  string
	e     api.Errno
	empty bool
}

// others are the arguments beside the jobs.
type others struct {
	table       []int
	a, b, k, by int
}

// callsOf are the functions that are given jobs.
func callsOf(l jobs, o others) []outcome {
	keep, e1 := clock.CanKeep(l)
	table, is, e2 := clock.Table(l)
	urgent, e3 := clock.Urgent(l)
	a, b, crowded, e4 := clock.Crowded(l)
	slack, any, e5 := clock.Slack(l)
	late, e6 := clock.Late(l)
	ends, e7 := clock.Ends(l)
	speed, e8 := clock.Speed(l)
	turned, e9 := clock.Turn(l)
	return append([]outcome{
		{"Validate", clock.Validate(l), true},
		{"CanKeep", e1, !keep},
		{"Table", e2, len(table) == 0 && !is},
		{"Urgent", e3, len(urgent) == 0},
		{"Crowded", e4, a == 0 && b == 0 && !crowded},
		{"Slack", e5, slack == 0 && !any},
		{"Late", e6, late == 0},
		{"Ends", e7, len(ends) == 0},
		{"Speed", e8, speed == api.Rat{}},
		{"Turn", e9, len(turned) == 0},
	}, callsWith(l, o)...)
}

// callsWith are the functions that are given jobs and more.
func callsWith(l jobs, o others) []outcome {
	demand, e1 := clock.Demand(l, o.a, o.b)
	without, e2 := clock.Without(l, o.k)
	shifted, e3 := clock.Shift(l, o.by)
	relaxed, e4 := clock.Relax(l, o.by)
	return []outcome{
		{"CheckTable", clock.CheckTable(l, o.table), true},
		{"Demand", e1, demand == 0},
		{"CheckCrowded", clock.CheckCrowded(l, o.a, o.b), true},
		{"Without", e2, len(without) == 0},
		{"Shift", e3, len(shifted) == 0},
		{"Relax", e4, len(relaxed) == 0},
	}
}

// TestJobErrorsComeFirst is of P5.1 with R2 and R3.
func TestJobErrorsComeFirst(t *testing.T) {
	full := slices.Repeat(jobs{job(0, 5, 1)}, api.MaxJobs)
	tooMany := append(slices.Clone(full), job(0, 5, 1))
	all := map[string]api.Errno{}
	for _, c := range []struct {
		l    jobs
		want api.Errno
	}{
		{tooMany, api.ErrLarge},
		{append(jobs{job(-1, 5, 1)}, full...), api.ErrLarge},
		{make(jobs, 1000), api.ErrLarge},
		{jobs{job(0, 5, 1), job(5, 5, 1)}, api.ErrArg},
		{append(jobs{job(0, 61, 1)}, full[1:]...), api.ErrArg},
		{make(jobs, 1), api.ErrArg},
	} {
		for i, o := range []others{
			{b: 1},
			{b: 60, k: 1, by: 1},
			{table: make([]int, api.MaxTime+1), a: -1, b: 61, k: -1, by: -1},
			{table: []int{-2, 99}, a: 5, b: 5, k: 99, by: math.MaxInt},
			{table: []int{0}, a: math.MaxInt, b: math.MinInt, k: math.MinInt, by: math.MinInt},
		} {
			for _, got := range callsOf(c.l, o) {
				all[got.name] = c.want
				if got.e != c.want || !got.empty {
					t.Errorf("%d: %s: error %v, want %v; other results are zero values: %v", i, got.name, got.e, c.want, got.empty)
				}
			}
		}
	}
	if len(all) != 16 {
		t.Errorf("%d functions with jobs, want 16", len(all))
	}
}

// TestStretchErrors is of P5.1: a or b is not from 0 to MaxTime, or a is not below b.
func TestStretchErrors(t *testing.T) {
	for a := -1; a <= api.MaxTime+1; a++ {
		for b := -1; b <= api.MaxTime+1; b++ {
			wantStretch(t, a, b, 0 <= a && a < b && b <= api.MaxTime)
		}
	}
	for _, x := range []int{math.MinInt, math.MaxInt} {
		for _, y := range []int{0, 1, api.MaxTime, math.MinInt, math.MaxInt} {
			wantStretch(t, x, y, false)
			wantStretch(t, y, x, false)
		}
	}
}

// wantStretch wants a stretch from a to b to be one, or not to be one.
func wantStretch(t *testing.T, a, b int, is bool) {
	t.Helper()
	l := jobs{job(0, 1, 60), job(59, 60, 60), job(0, 60, 60)}
	for _, l := range []jobs{l, nil} {
		n, e := clock.Demand(l, a, b)
		f := clock.CheckCrowded(l, a, b)
		if is && (e != api.OK || f != api.OK && f != api.ErrProof) {
			t.Errorf("from %d to %d: %v, %v", a, b, e, f)
		}
		if !is && (n != 0 || e != api.ErrArg || f != api.ErrArg) {
			t.Errorf("from %d to %d: %d, %v, %v", a, b, n, e, f)
		}
	}
}
