package clock

import (
	"slices"

	"quadrupole/api"
)

// Backlog returns how much waits after each unit, if so much is done in each one.
func Backlog(come []int, done int) ([]int, api.Errno) {
	if len(come) > api.MaxTime || !isAmount(done) {
		return nil, api.ErrArg
	}
	waits := 0
	backlog := make([]int, len(come))
	for unit, more := range come {
		if !isAmount(more) {
			return nil, api.ErrArg
		}
		waits = max(0, waits+more-done)
		backlog[unit] = waits
	}
	return backlog, api.OK
}

// isAmount reports whether x can come, or be done, in one unit.
func isAmount(x int) bool {
	return 0 <= x && x <= api.MaxTime
}

// changed returns the jobs with a change to each one, and ErrArg if one is no job then. A change may wrap round beyond the integers of the language: it ends so far from 0 to MaxTime that the outcome is no job in any case.
func changed(l []api.Job, change func(api.Job) api.Job) ([]api.Job, api.Errno) {
	if e := Validate(l); e != api.OK {
		return nil, e
	}
	other := slices.Clone(l)
	for k, j := range l {
		other[k] = change(j)
	}
	if e := Validate(other); e != api.OK {
		return nil, e
	}
	return other, api.OK
}

// Turn returns the jobs with time turned round.
func Turn(l []api.Job) ([]api.Job, api.Errno) {
	return changed(l, func(j api.Job) api.Job {
		return api.Job{From: api.MaxTime - j.By, By: api.MaxTime - j.From, Need: j.Need}
	})
}

// Shift returns the jobs with a number added to all Froms and Bys.
func Shift(l []api.Job, by int) ([]api.Job, api.Errno) {
	return changed(l, func(j api.Job) api.Job {
		return api.Job{From: j.From + by, By: j.By + by, Need: j.Need}
	})
}

// Relax returns the jobs with a number added to all Bys.
func Relax(l []api.Job, by int) ([]api.Job, api.Errno) {
	return changed(l, func(j api.Job) api.Job {
		return api.Job{From: j.From, By: j.By + by, Need: j.Need}
	})
}

// Without returns the jobs without the job k.
func Without(l []api.Job, k int) ([]api.Job, api.Errno) {
	if e := Validate(l); e != api.OK {
		return nil, e
	}
	if !isOneOf(k, len(l)) {
		return nil, api.ErrNone
	}
	return slices.Delete(slices.Clone(l), k, k+1), api.OK
}
