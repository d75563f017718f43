package machine

import "quadrupole/api"

// Replay makes a machine and executes the orders of a log, none of which may be refused.
func Replay(t api.Trap, limit int, log string) (*Machine, int, api.Errno) {
	m, e := New(t, limit)
	if e != api.OK {
		return nil, 0, e
	}
	orders, rest := Read(log)
	if rest != "" {
		return nil, 0, api.ErrBroken
	}
	for k, text := range orders {
		if e := m.Do(text); e != api.OK {
			return nil, k, e
		}
	}
	return m, len(orders), api.OK
}

// Run makes a machine and executes orders, some of which may be refused. It returns the error of each one, and the log.
func Run(t api.Trap, limit int, orders []string) ([]api.Errno, string, api.Errno) {
	m, e := New(t, limit)
	if e != api.OK {
		return nil, "", e
	}
	if len(orders) > api.MaxPages {
		return nil, "", api.ErrLarge
	}
	errnos := make([]api.Errno, len(orders))
	for k, text := range orders {
		errnos[k] = m.Do(text)
	}
	return errnos, m.Log(), api.OK
}
