package clock_test

import (
	"slices"
	"testing"

	"quadrupole/api"
	"quadrupole/clock"
)

// doneIn counts the units of a job in a part of a table.
func doneIn(table []int, k int) int {
	count := 0
	for _, done := range table {
		if done == k {
			count++
		}
	}
	return count
}

// mostUrgent tells by the words of the chapter which job is to be done after a part of a table.
func mostUrgent(l jobs, table []int) int {
	var open []int
	for k, j := range l {
		if j.From <= len(table) && doneIn(table, k) < j.Need {
			open = append(open, k)
		}
	}
	for by := range api.MaxTime + 1 {
		for _, k := range open {
			if l[k].By == by {
				return k
			}
		}
	}
	return -1
}

// urgentOf is Urgent by the words of the chapter.
func urgentOf(l jobs) []int {
	need := 0
	for _, j := range l {
		need += j.Need
	}
	var table []int
	for need > 0 {
		k := mostUrgent(l, table)
		if k >= 0 {
			need--
		}
		table = append(table, k)
	}
	return table
}

// TestUrgent is of P5.3.
func TestUrgent(t *testing.T) {
	for _, l := range samples() {
		got := must[[]int](t)(clock.Urgent(l))
		if want := urgentOf(l); !slices.Equal(got, want) {
			t.Fatalf("Urgent(%v) = %v, want %v", l, got, want)
		}
	}
}

// idle are units without a job.
func idle(units int, more ...int) []int {
	return append(slices.Repeat([]int{-1}, units), more...)
}

// TestUrgentOfSome is of P5.3: Urgent, Ends and Late of few jobs, of equal jobs, and of the longest tables.
func TestUrgentOfSome(t *testing.T) {
	most := slices.Repeat(jobs{job(59, 60, 60)}, api.MaxJobs)
	var eight, ends []int
	for k := range api.MaxJobs {
		eight = append(eight, slices.Repeat([]int{k}, api.MaxTime)...)
		ends = append(ends, 59+60*(k+1))
	}
	for i, c := range []struct {
		l            jobs
		urgent, ends []int
		late         int
	}{
		{nil, nil, nil, 0},
		{two(), []int{0, 1, 1}, []int{1, 3}, 0},
		{three(), []int{0, 2, 1, 1}, []int{1, 4, 2}, 1},
		{jobs{job(0, 1, 1)}, []int{0}, []int{1}, 0},
		{jobs{job(0, 60, 1)}, []int{0}, []int{1}, -59},
		{jobs{job(59, 60, 1)}, idle(59, 0), []int{60}, 0},
		{jobs{job(59, 60, 2)}, idle(59, 0, 0), []int{61}, 1},
		{jobs{job(2, 5, 1), job(2, 5, 1), job(2, 5, 1)}, idle(2, 0, 1, 2), []int{3, 4, 5}, 0},
		{jobs{job(2, 5, 2), job(0, 5, 2), job(0, 5, 1)}, []int{1, 1, 0, 0, 2}, []int{4, 2, 5}, 0},
		{jobs{job(0, 9, 3), job(1, 4, 1), job(2, 3, 1)}, []int{0, 1, 2, 0, 0}, []int{5, 2, 3}, 0},
		{jobs{job(0, 9, 1), job(5, 9, 1), job(7, 8, 1)}, []int{0, -1, -1, -1, -1, 1, -1, 2}, []int{1, 6, 8}, 0},
		{jobs{job(0, 9, 4), job(1, 5, 1)}, []int{0, 1, 0, 0, 0}, []int{5, 2}, -3},
		{most, idle(59, eight...), ends, 479},
		{jobs{job(0, 60, 60), job(0, 1, 60)}, append(slices.Repeat([]int{1}, 60), make([]int, 60)...), []int{120, 60}, 60},
	} {
		urgent, e := clock.Urgent(c.l)
		ends, f := clock.Ends(c.l)
		late, g := clock.Late(c.l)
		if !slices.Equal(urgent, c.urgent) || !slices.Equal(ends, c.ends) || late != c.late {
			t.Errorf("%d: %v, %v, %d, want %v, %v, %d", i, urgent, ends, late, c.urgent, c.ends, c.late)
		}
		if e != api.OK || f != api.OK || g != api.OK {
			t.Errorf("%d: %v, %v, %v", i, e, f, g)
		}
	}
}

// TestEndsAndLate is of P5.3: by the table of Urgent.
func TestEndsAndLate(t *testing.T) {
	for _, l := range samples() {
		table := urgentOf(l)
		var ends, lates []int
		for k, j := range l {
			end := len(table)
			for table[end-1] != k {
				end--
			}
			ends = append(ends, end)
			lates = append(lates, end-j.By)
		}
		if got := must[[]int](t)(clock.Ends(l)); !slices.Equal(got, ends) {
			t.Fatalf("Ends(%v) = %v, want %v", l, got, ends)
		}
		if len(l) == 0 {
			lates = []int{0}
		}
		if got := must[int](t)(clock.Late(l)); got != slices.Max(lates) {
			t.Fatalf("Late(%v) = %d, want %d", l, got, slices.Max(lates))
		}
	}
}

// TestUrgentIsBest is the consequence of P5.3, and of S5: no order of work has a smaller greatest lateness, and so the table by urgency keeps jobs that can be kept.
func TestUrgentIsBest(t *testing.T) {
	for _, l := range samples() {
		if len(l) == 0 {
			continue
		}
		late := must[int](t)(clock.Late(l))
		if !can(l, late) || can(l, late-1) {
			t.Fatalf("Late(%v) = %d", l, late)
		}
		if keep := must[bool](t)(clock.CanKeep(l)); keep != (late <= 0) {
			t.Fatalf("CanKeep(%v) = %v, and Late is %d", l, keep, late)
		}
		table := must[[]int](t)(clock.Urgent(l))
		if e := clock.CheckTable(l, table); late <= 0 && e != api.OK || late > 0 && e == api.OK {
			t.Fatalf("CheckTable(%v, %v) of Urgent: %v; Late is %d", l, table, e, late)
		}
	}
}
