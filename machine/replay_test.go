package machine_test

import (
	"math/rand"
	"slices"
	"strings"
	"testing"

	"quadrupole/api"
	"quadrupole/machine"
)

// played is the outcome of Replay that made a machine.
type played struct {
	m     *machine.Machine
	count int
}

// replayed returns the outcome of Replay that gave no error.
func replayed(t *testing.T, x api.Trap, limit int, log string) played {
	t.Helper()
	m, n, e := machine.Replay(x, limit, log)
	if e != api.OK {
		t.Fatalf("Replay of %q: %d, %v", log, n, e)
	}
	return played{m, n}
}

// TestReplay is of P9.5 and S9: Replay of the first lines of a log makes the machine as it was after these orders, and this one goes on as the machine did.
func TestReplay(t *testing.T) {
	r := rand.New(rand.NewSource(5))
	for _, x := range someTraps() {
		for range 6 {
			limit := randomLimit(r)
			m, is := must[*machine.Machine](t)(machine.New(x, limit)), &model{t: x, limit: limit}
			var tried []string
			var errnos []api.Errno
			looks := []seen{look(m)}
			done := []int{0} // how many orders had been tried
			for len(tried) < 60 {
				tried = append(tried, randomOrder(r, is))
				is.do(tried[len(tried)-1])
				errnos = append(errnos, m.Do(tried[len(tried)-1]))
				if errnos[len(errnos)-1] == api.OK {
					looks, done = append(looks, look(m)), append(done, len(tried))
				}
			}
			lines := strings.SplitAfter(m.Log(), "\n")
			for n := range looks {
				got := replayed(t, x, limit, strings.Join(lines[:n], ""))
				if got.count != n || look(got.m) != looks[n] {
					t.Fatalf("Replay of %d lines: %d, %s, want %s", n, got.count, look(got.m), looks[n])
				}
				for k := done[n]; k < len(tried); k++ {
					if e := got.m.Do(tried[k]); e != errnos[k] {
						t.Fatalf("%q after Replay of %d lines: %v, want %v", tried[k], n, e, errnos[k])
					}
				}
				if look(got.m) != look(m) {
					t.Fatalf("after Replay of %d lines: %s, want %s", n, look(got.m), look(m))
				}
			}
		}
	}
}

// TestReplayErrors is of P9.5: a rest comes before an order that is refused, of which the number is told.
func TestReplayErrors(t *testing.T) {
	for i, c := range []struct {
		log  string
		want int
		e    api.Errno
	}{
		{logOf([]string{"bad"}), 0, api.ErrSyntax},
		{logOf([]string{"load 0", "bad", "load 9"}), 1, api.ErrSyntax},
		{logOf([]string{"load 0", "load 9", "bad"}), 1, api.ErrNone},
		{logOf([]string{"load 0", "load 1", "load 1"}), 2, api.ErrTwice},
		{logOf([]string{"load 0", "load 2", "join 0 1 4", "join 0 1 0"}), 2, api.ErrState},
		{logOf([]string{"load 0", "wait 2", "turn 0 1", "turn 0 1"}), 3, api.ErrRule},
		{logOf([]string{"load 0", "wait 0"}), 1, api.ErrArg},
		{logOf(append(append([]string{"load 0"}, slices.Repeat([]string{"spin 0 1", "cool 0"}, 10)...), "spin 0 1")), 21, api.ErrLarge},
		{logOf(append(slices.Repeat([]string{"wait 1"}, 99), "drop")), 99, api.ErrState},
		{"x", 0, api.ErrBroken},
		{"\n", 0, api.ErrBroken},
		{logOf([]string{"load 0", "bad"}) + "x", 0, api.ErrBroken},
		{logOf([]string{"load 0", "load 1"}) + "x", 0, api.ErrBroken},
		{strings.TrimSuffix(logOf([]string{"load 0", "load 1"}), "\n"), 0, api.ErrBroken},
		{strings.Replace(logOf([]string{"load 0", "load 1"}), "load 0", "load 2", 1), 0, api.ErrBroken},
		{logOf(slices.Repeat([]string{"wait 1"}, 101)), 0, api.ErrBroken},
	} {
		if m, n, e := machine.Replay(line3(), 2, c.log); m != nil || n != c.want || e != c.e {
			t.Errorf("%d: %v, %d, %v, want %d, %v", i, m, n, e, c.want, c.e)
		}
	}
	if got := replayed(t, line3(), 2, ""); got.count != 0 || look(got.m) != look(after(t, line3(), 2)) {
		t.Error(got.count, look(got.m))
	}
	if got := replayed(t, line3(), 2, logOf(slices.Repeat([]string{"wait 1"}, 100))); got.count != 100 || got.m.Do("wait 1") != api.ErrLarge {
		t.Error(got.count)
	}
}

// TestRun is of P9.5: the errors of the orders, and the log of those that were done.
func TestRun(t *testing.T) {
	r := rand.New(rand.NewSource(6))
	for _, x := range someTraps() {
		for _, count := range []int{0, 1, 7, 40, 99, 100} {
			limit := randomLimit(r)
			is := &model{t: x, limit: limit}
			var orders []string
			var want []api.Errno
			for range count {
				orders = append(orders, randomOrder(r, is))
				want = append(want, is.do(orders[len(orders)-1]))
			}
			if es, log, e := machine.Run(x, limit, orders); !slices.Equal(es, want) || log != logOf(is.orders) || e != api.OK {
				t.Errorf("Run(%v, %d, %q) = %v, %q, %v, want %v, %q", x, limit, orders, es, log, e, want, logOf(is.orders))
			}
		}
	}
}

// TestRunMost is of P9.5: at most MaxPages orders are run, also if some would be refused.
func TestRunMost(t *testing.T) {
	for _, order := range []string{"wait 1", "load 0", "bad", ""} {
		most := slices.Repeat([]string{order}, 100)
		if es, _, e := machine.Run(line3(), 2, most); len(es) != 100 || e != api.OK {
			t.Errorf("%q: %v, %v", order, es, e)
		}
		for _, count := range []int{101, 102, 1000} {
			if es, log, e := machine.Run(line3(), 2, slices.Repeat([]string{order}, count)); len(es) != 0 || log != "" || e != api.ErrLarge {
				t.Errorf("%d times %q: %v, %q, %v, want ErrLarge", count, order, es, log, e)
			}
		}
	}
	es, log, e := machine.Run(line3(), 2, slices.Repeat([]string{"wait 1"}, 100))
	if slices.Max(es) != api.OK || strings.Count(log, "\n") != 100 || e != api.OK {
		t.Error(es, log, e)
	}
}
