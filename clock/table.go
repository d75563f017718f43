package clock

import "quadrupole/api"

// CheckTable checks that the table keeps the jobs.
func CheckTable(l []api.Job, table []int) api.Errno {
	if e := Validate(l); e != api.OK {
		return e
	}
	if len(table) > api.MaxTime {
		return api.ErrLarge
	}
	for _, k := range table {
		if k != none && !isOneOf(k, len(l)) {
			return api.ErrArg
		}
	}
	for unit, k := range table {
		if k != none && (unit < l[k].From || unit >= l[k].By) {
			return api.ErrRule
		}
	}
	if !isEnough(l, table) {
		return api.ErrProof
	}
	return api.OK
}

// isEnough reports whether each job is done in as many units as it needs, and in no more.
func isEnough(l []api.Job, table []int) bool {
	units := make([]int, len(l))
	for _, k := range table {
		if k != none {
			units[k]++
		}
	}
	for k, j := range l {
		if units[k] != j.Need {
			return false
		}
	}
	return true
}

// canKeep reports whether some table keeps valid jobs: if one does, that by urgency does.
func canKeep(l []api.Job) bool {
	return lateOf(l) <= 0
}

// CanKeep reports whether some table keeps the jobs.
func CanKeep(l []api.Job) (bool, api.Errno) {
	if e := Validate(l); e != api.OK {
		return false, e
	}
	return canKeep(l), api.OK
}

// Table returns a table that keeps the jobs.
func Table(l []api.Job) ([]int, bool, api.Errno) {
	if e := Validate(l); e != api.OK {
		return nil, false, e
	}
	if !canKeep(l) {
		return nil, false, api.OK
	}
	return tableBy(soonest{}, l), true, api.OK
}
