package clock_test

import (
	"math"
	"slices"
	"testing"

	"quadrupole/api"
	"quadrupole/clock"
)

// errorOf tells by the words of the chapter the error of a table of at most MaxTime units.
func errorOf(l jobs, table []int) api.Errno {
	for _, k := range table {
		if k < -1 || k >= len(l) {
			return api.ErrArg
		}
	}
	for unit, k := range table {
		if k >= 0 && unit < l[k].From {
			return api.ErrRule
		}
		if k >= 0 && unit >= l[k].By {
			return api.ErrRule
		}
	}
	if !keeps(l, table) {
		return api.ErrProof
	}
	return api.OK
}

// TestCheckTable is of P5.2: all short tables of some jobs.
func TestCheckTable(t *testing.T) {
	seen := map[api.Errno]int{}
	for _, l := range []jobs{nil, {job(0, 1, 1)}, {job(1, 3, 2)}, {job(2, 4, 1)}, two(), three(), {job(0, 2, 2), job(1, 4, 2)}, {job(1, 2, 1), job(0, 4, 1), job(3, 4, 1)}} {
		for units := range 6 {
			for _, table := range everyTable(units, -2, len(l)) {
				want := errorOf(l, table)
				seen[want]++
				if e := clock.CheckTable(l, table); e != want {
					t.Fatalf("CheckTable(%v, %v) = %v, want %v", l, table, e, want)
				}
			}
		}
	}
	for _, e := range []api.Errno{api.OK, api.ErrArg, api.ErrRule, api.ErrProof} {
		if seen[e] < 10 {
			t.Errorf("the error %v was wanted %d times", e, seen[e])
		}
	}
}

// TestCheckTableOfSome is of P5.2: the edges, and the order of the errors.
func TestCheckTableOfSome(t *testing.T) {
	idle := func(units int, more ...int) []int {
		return append(slices.Repeat([]int{-1}, units), more...)
	}
	last := jobs{job(59, 60, 1)}
	for i, c := range []struct {
		l     jobs
		table []int
		want  api.Errno
	}{
		{nil, nil, api.OK},
		{nil, idle(60), api.OK},
		{nil, idle(61), api.ErrLarge},
		{nil, []int{0}, api.ErrArg},
		{last, idle(59, 0), api.OK},
		{last, idle(60, 0), api.ErrLarge},
		{last, idle(59, 0, -1), api.ErrLarge},
		{last, idle(58, 0), api.ErrRule},
		{last, idle(58, 0, 0), api.ErrRule},
		{last, idle(60), api.ErrProof},
		{last, nil, api.ErrProof},
		{jobs{job(0, 60, 60)}, make([]int, 60), api.OK},
		{jobs{job(0, 60, 60)}, make([]int, 61), api.ErrLarge},
		{jobs{job(0, 60, 60)}, make([]int, 59), api.ErrProof},
		{jobs{job(0, 60, 59)}, make([]int, 60), api.ErrProof},
		{two(), []int{0, 1, 1}, api.OK},
		{two(), []int{1, 0, 1}, api.OK},
		{two(), []int{0, 1, 1, -1, -1}, api.OK},
		{two(), []int{1, 1, 0}, api.ErrRule},
		{two(), []int{0, 1}, api.ErrProof},
		{two(), []int{1, 1, -1}, api.ErrProof},
		{two(), []int{0, 0, 1}, api.ErrProof},
		{two(), []int{0, 1, 1, 2}, api.ErrArg},
		{two(), []int{0, 1, 1, -2}, api.ErrArg},
		{two(), []int{1, 1, 0, math.MaxInt}, api.ErrArg},
		{two(), []int{1, 1, 0, math.MinInt}, api.ErrArg},
		{two(), slices.Repeat([]int{7}, 61), api.ErrLarge},
		{two(), slices.Repeat([]int{7}, 60), api.ErrArg},
		{two(), []int{-1, -1, 0}, api.ErrRule},
	} {
		if e := clock.CheckTable(c.l, c.table); e != c.want {
			t.Errorf("%d: %v, want %v", i, e, c.want)
		}
	}
}

// TestTableOfShort is of P5.2, by a search through all tables.
func TestTableOfShort(t *testing.T) {
	kept := 0
	for _, l := range append(everyList(2, everyJob(0, 4, 3)), everyList(3, everyJob(0, 2, 2))...) {
		want := slices.ContainsFunc(everyTable(4, -1, len(l)-1), func(table []int) bool { return keeps(l, table) })
		if want {
			kept++
		}
		wantKept(t, l, want)
	}
	if kept < 50 {
		t.Error(kept)
	}
}

// TestTable is of P5.2: there is a table exactly if there are units enough, and it keeps the jobs.
func TestTable(t *testing.T) {
	wantKept(t, nil, true)
	wantKept(t, jobs{job(0, 60, 60)}, true)
	wantKept(t, jobs{job(1, 60, 60)}, false)
	wantKept(t, slices.Repeat(jobs{job(0, 8, 1)}, api.MaxJobs), true)
	wantKept(t, slices.Repeat(jobs{job(0, 7, 1)}, api.MaxJobs), false)
	wantKept(t, slices.Repeat(jobs{job(0, 60, 60)}, api.MaxJobs), false)
	kept := 0
	for _, l := range samples() {
		want := can(l, 0)
		if want && len(l) > 2 {
			kept++
		}
		wantKept(t, l, want)
	}
	if kept < 200 {
		t.Error(kept)
	}
}

// wantKept wants jobs to be kept by a table, or not to be kept.
func wantKept(t *testing.T, l jobs, want bool) {
	t.Helper()
	is := must[bool](t)(clock.CanKeep(l))
	got := mustBe[[]int](t)(clock.Table(l))
	if is != want || got.is != want || !want && len(got.value) != 0 {
		t.Fatalf("CanKeep(%v) = %v; Table is %v; want %v", l, is, got, want)
	}
	if want && (len(got.value) > api.MaxTime || errorOf(l, got.value) != api.OK) {
		t.Fatalf("Table(%v) = %v", l, got)
	}
	if e := clock.CheckTable(l, got.value); want && e != api.OK {
		t.Fatalf("CheckTable(%v, %v) = %v", l, got.value, e)
	}
}
