package heat

import "quadrupole/api"

// stretch is the acts of an ion since it was cool: the number of the first one that brought heat, and the heat of all of them.
type stretch struct {
	from, heat int
}

// add adds the act with a number. As long as the heat is 0, what was before need not be in a window.
func (s *stretch) add(number int, a api.Act) {
	if s.heat == 0 {
		s.from = number
	}
	s.heat += a.Heat
}

// windowsOf returns windows of which no two meet, by the numbers of their gates. Each one ends as early as a window of its ion can that does not meet the one before; so a cooling just before the gate of each one is enough for all windows, and no fewer coolings are.
func windowsOf(plan []api.Act, limit int) []api.Window {
	var windows []api.Window
	var since [api.MaxQubits]stretch
	for i, a := range plan {
		s := &since[a.Ion]
		switch actOf(a).(type) {
		case cooling:
			*s = stretch{}
		case gate:
			if s.heat > limit {
				windows = append(windows, api.Window{Ion: a.Ion, From: s.from, To: i})
				*s = stretch{}
			}
			s.add(i, a)
		case move:
			s.add(i, a)
		}
	}
	return windows
}

// Windows returns as many windows as possible of which no two meet.
func Windows(n int, plan []api.Act, limit int) ([]api.Window, api.Errno) {
	if e := validateBy(n, plan, limit); e != api.OK {
		return nil, e
	}
	return windowsOf(plan, limit), api.OK
}

// isWindow reports whether w, which is of an ion and of acts that there are, is a window.
func isWindow(plan []api.Act, limit int, w api.Window) bool {
	if w.From >= w.To || plan[w.From].Ion != w.Ion || plan[w.To].Ion != w.Ion || !isGate(plan[w.To]) {
		return false
	}
	heat := 0
	for _, a := range plan[w.From:w.To] {
		if a.Ion != w.Ion {
			continue
		}
		if isCooling(a) {
			return false
		}
		heat += a.Heat
	}
	return heat > limit
}

func meet(v, w api.Window) bool {
	return v.Ion == w.Ion && v.From < w.To && w.From < v.To
}

func hasMeeting(l []api.Window) bool {
	for i, w := range l {
		for _, v := range l[:i] {
			if meet(v, w) {
				return true
			}
		}
	}
	return false
}

// CheckWindows checks that l is windows of which no two meet, and returns their number.
func CheckWindows(n int, plan []api.Act, limit int, l []api.Window) (int, api.Errno) {
	if e := validateBy(n, plan, limit); e != api.OK {
		return 0, e
	}
	if len(l) > api.MaxActs {
		return 0, api.ErrLarge
	}
	for _, w := range l {
		if !isOneOf(w.Ion, n) || !isOneOf(w.From, len(plan)) || !isOneOf(w.To, len(plan)) {
			return 0, api.ErrArg
		}
		if !isWindow(plan, limit, w) {
			return 0, api.ErrProof
		}
	}
	if hasMeeting(l) {
		return 0, api.ErrRule
	}
	return len(l), api.OK
}
