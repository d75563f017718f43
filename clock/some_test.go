package clock_test

import (
	"math/rand"
	"slices"
	"testing"

	"quadrupole/api"
)

type jobs = []api.Job

func job(from, by, need int) api.Job { return api.Job{From: from, By: by, Need: need} }

// two and three are those of the chapter's examples.
func two() jobs   { return jobs{job(0, 2, 1), job(0, 3, 2)} }
func three() jobs { return append(two(), job(1, 2, 1)) }

// everyJob lists the jobs within some times that need at most so much.
func everyJob(first, last, need int) jobs {
	var all jobs
	for from := first; from < last; from++ {
		for by := from + 1; by <= last; by++ {
			for n := 1; n <= need; n++ {
				all = append(all, job(from, by, n))
			}
		}
	}
	return all
}

// everyList lists the lists of so many jobs.
func everyList(length int, of jobs) []jobs {
	if length == 0 {
		return []jobs{nil}
	}
	var all []jobs
	for _, l := range everyList(length-1, of) {
		for _, j := range of {
			all = append(all, append(slices.Clone(l), j))
		}
	}
	return all
}

// shortSamples are all lists of few jobs that are short.
func shortSamples() []jobs {
	var all []jobs
	for length := range 3 {
		all = append(all, everyList(length, everyJob(0, 4, 3))...)
	}
	all = append(all, everyList(3, everyJob(1, 3, 2))...)
	return append(all, everyList(2, everyJob(api.MaxTime-3, api.MaxTime, 3))...)
}

// longSamples are lists of any length, the same ones each time: with any jobs, with jobs that can just be kept, and with one more unit of need than those.
func longSamples() []jobs {
	var all []jobs
	r := rand.New(rand.NewSource(7))
	for length := 3; length <= api.MaxJobs; length++ {
		for _, need := range []int{1, 2, 4, 7, 9, 15, api.MaxTime} {
			for range 25 {
				l := make(jobs, length)
				last := min(api.MaxTime, 5+r.Intn(length*need+1))
				for k := range l {
					from := r.Intn(last)
					l[k] = job(from, from+1+r.Intn(last-from), 1+r.Intn(need))
				}
				all = append(all, l, keptJobs(r, length, last))
				more := slices.Clone(all[len(all)-1])
				more[r.Intn(len(more))].Need++
				all = append(all, more)
			}
		}
	}
	return all
}

// keptJobs are jobs made from a table that keeps them, with few units without a job.
func keptJobs(r *rand.Rand, length, units int) jobs {
	l := make(jobs, length)
	for k := range l {
		unit := r.Intn(units)
		l[k] = job(unit, unit+1, 0)
	}
	for unit := range units {
		if k := r.Intn(length + 1); k < length {
			l[k] = job(min(l[k].From, unit), max(l[k].By, unit+1), l[k].Need+1)
		}
	}
	return slices.DeleteFunc(l, func(j api.Job) bool { return j.Need == 0 })
}

func samples() []jobs {
	return append(shortSamples(), longSamples()...)
}

// work finds units for jobs: the number of the job for each unit that is used.
type work map[int]int

// give gives the job k one more unit from its From on and before its By with a number added, and other units to other jobs where that is needed.
func (w work) give(l jobs, k, late int, seen []bool) bool {
	for unit := l[k].From; unit < l[k].By+late; unit++ {
		if seen[unit] {
			continue
		}
		seen[unit] = true
		if other, used := w[unit]; !used || w.give(l, other, late, seen) {
			w[unit] = k
			return true
		}
	}
	return false
}

// can reports whether there are units enough for all jobs, none of them later than By with a number added.
func can(l jobs, late int) bool {
	w := work{}
	for k, j := range l {
		for range j.Need {
			if !w.give(l, k, late, make([]bool, 600)) {
				return false
			}
		}
	}
	return true
}

// keeps tells by the words of the chapter whether a table of jobs, or of none, keeps them.
func keeps(l jobs, table []int) bool {
	for k, j := range l {
		units := 0
		for unit, done := range table {
			if done == k && (unit < j.From || unit >= j.By) {
				return false
			}
			if done == k {
				units++
			}
		}
		if units != j.Need {
			return false
		}
	}
	return true
}

// everyTable lists the tables of so many units with numbers from first to last.
func everyTable(units, first, last int) [][]int {
	if units == 0 {
		return [][]int{nil}
	}
	var all [][]int
	for _, table := range everyTable(units-1, first, last) {
		for k := first; k <= last; k++ {
			all = append(all, append(slices.Clone(table), k))
		}
	}
	return all
}

// stretch is one with its demand, by the words of the chapter.
type stretch struct {
	a, b, demand int
}

// everyStretch lists all stretches, in ascending order.
func everyStretch(l jobs) []stretch {
	var all []stretch
	for a := 0; a <= api.MaxTime; a++ {
		for b := 0; b <= api.MaxTime; b++ {
			if a >= b {
				continue
			}
			s := stretch{a, b, 0}
			for _, j := range l {
				if a <= j.From && j.By <= b {
					s.demand += j.Need
				}
			}
			all = append(all, s)
		}
	}
	return all
}

// must returns the value of a call that gave no error.
func must[T any](t *testing.T) func(T, api.Errno) T {
	return func(value T, e api.Errno) T {
		t.Helper()
		if e != api.OK {
			t.Fatal(e)
		}
		return value
	}
}

// mayBe is the value of a call that reports whether there is one.
type mayBe[T any] struct {
	value T
	is    bool
}

// mustBe returns the value of a call that gave no error, and whether there is one.
func mustBe[T any](t *testing.T) func(T, bool, api.Errno) mayBe[T] {
	return func(value T, is bool, e api.Errno) mayBe[T] {
		t.Helper()
		if e != api.OK {
			t.Fatal(e)
		}
		return mayBe[T]{value, is}
	}
}
