package clock

import (
	"slices"

	"quadrupole/api"
)

// none stands in a table for the job of a unit in which no job is done.
const none = -1

// maxUnits is how many units a table by urgency can have: from MaxTime on no job waits for its From, and so no unit is without a job.
const maxUnits = api.MaxTime + api.MaxJobs*api.MaxTime

// urgency tells which of two jobs is more urgent.
type urgency interface {
	isMoreUrgent(i, j api.Job) bool
}

// soonest is the urgency of the jobs that must be done first.
type soonest struct{}

func (soonest) isMoreUrgent(i, j api.Job) bool {
	return i.By < j.By
}

// tableBy returns the table of valid jobs in which the most urgent one of those that can be done is done in each unit.
func tableBy(u urgency, l []api.Job) []int {
	var units [maxUnits]int
	left, count := slices.Clone(l), 0
	for ; isAnyLeft(left); count++ {
		k := next(u, left, count)
		if k != none {
			left[k].Need--
		}
		units[count] = k
	}
	// The units behind are not part of the table, so an append to it must not find them.
	return units[:count:count]
}

func isAnyLeft(left []api.Job) bool {
	return slices.ContainsFunc(left, func(j api.Job) bool { return j.Need > 0 })
}

// next returns the most urgent one of the jobs that can be done in a unit and are not done yet, the first one of several.
func next(u urgency, left []api.Job, unit int) int {
	first := none
	for k, j := range left {
		if j.Need == 0 || j.From > unit {
			continue
		}
		if first == none || u.isMoreUrgent(j, left[first]) {
			first = k
		}
	}
	return first
}

// endsOf returns, for each of valid jobs, the time at which it is done by urgency.
func endsOf(l []api.Job) []int {
	ends := make([]int, len(l))
	for unit, k := range tableBy(soonest{}, l) {
		if k != none {
			ends[k] = unit + 1
		}
	}
	return ends
}

// lateOf returns the greatest lateness of valid jobs that are done by urgency.
func lateOf(l []api.Job) int {
	if len(l) == 0 {
		return 0
	}
	late := -api.MaxTime // no job is done so early
	for k, end := range endsOf(l) {
		late = max(late, end-l[k].By)
	}
	return late
}

// Urgent returns the table by urgency.
func Urgent(l []api.Job) ([]int, api.Errno) {
	if e := Validate(l); e != api.OK {
		return nil, e
	}
	return tableBy(soonest{}, l), api.OK
}

// Ends returns, for each job, the time at which it is done by the table by urgency.
func Ends(l []api.Job) ([]int, api.Errno) {
	if e := Validate(l); e != api.OK {
		return nil, e
	}
	return endsOf(l), api.OK
}

// Late returns the greatest number of Ends minus By, of all jobs.
func Late(l []api.Job) (int, api.Errno) {
	if e := Validate(l); e != api.OK {
		return 0, e
	}
	return lateOf(l), api.OK
}
