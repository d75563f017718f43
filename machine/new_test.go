package machine_test

import (
	"math"
	"strings"
	"testing"

	"quadrupole/api"
	"quadrupole/machine"
)

// TestNew is of the description of New: a machine without ions, gates and counts, with an empty log.
func TestNew(t *testing.T) {
	for _, x := range someTraps() {
		for _, limit := range []int{0, 1, 50, 99, 100} {
			m := must[*machine.Machine](t)(machine.New(x, limit))
			if got := look(m); got != `[] [] [] [] 0 0 0 [] "" true` {
				t.Errorf("New(%v, %d): %s", x, limit, got)
			}
		}
	}
}

// TestNewErrors is of the description of New: the errors of the trap come before those of the limit. So it is of Replay and of Run, of which they are the first errors.
func TestNewErrors(t *testing.T) {
	many := make([]string, api.MaxPages+1)
	for i, c := range []struct {
		t     api.Trap
		limit int
		want  api.Errno
	}{
		{trap(0), 2, api.ErrArg},
		{trap(7), 2, api.ErrArg},
		{trap(math.MaxInt), math.MinInt, api.ErrArg},
		{trap(3, [2]int{1, 0}), 2, api.ErrArg},
		{trap(3, [2]int{1, 3}), 2, api.ErrArg},
		{trap(3, [2]int{0, 1}, [2]int{0, 1}), 2, api.ErrTwice},
		{trap(3, [2]int{0, 1}, [2]int{0, 1}), -1, api.ErrTwice},
		{trap(3, [2]int{0, 1}, [2]int{0, 1}), 101, api.ErrTwice},
		{line3(), -1, api.ErrArg},
		{line3(), 101, api.ErrArg},
		{line3(), math.MinInt, api.ErrArg},
		{line3(), math.MaxInt, api.ErrArg},
	} {
		if m, e := machine.New(c.t, c.limit); m != nil || e != c.want {
			t.Errorf("%d: New: %v, %v, want %v", i, m, e, c.want)
		}
		for _, log := range []string{"", "x", logOf([]string{"load 0", "bad"})} {
			if m, n, e := machine.Replay(c.t, c.limit, log); m != nil || n != 0 || e != c.want {
				t.Errorf("%d: Replay of %q: %v, %d, %v, want %v", i, log, m, n, e, c.want)
			}
		}
		for _, orders := range [][]string{nil, {"load 0"}, many} {
			if es, log, e := machine.Run(c.t, c.limit, orders); len(es) != 0 || log != "" || e != c.want {
				t.Errorf("%d: Run: %v, %q, %v, want %v", i, es, log, e, c.want)
			}
		}
	}
}

// TestNil is of the chapter's words about the methods of a nil machine.
func TestNil(t *testing.T) {
	var none *machine.Machine
	for _, order := range []string{"wait 1", "load 0", "drop", "", "bad", strings.Repeat("x", 31)} {
		if e := none.Do(order); e != api.ErrArg {
			t.Errorf("%q: %v", order, e)
		}
	}
	if got := look(none); got != `[] [] [] [] 0 0 0 [] "" false` {
		t.Error(got)
	}
}
