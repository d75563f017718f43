package machine_test

import (
	"slices"
	"strings"
	"sync"
	"testing"

	"quadrupole/api"
	"quadrupole/machine"
)

// together calls a function in several goroutines at the same time, and returns what it returned.
func together(count int, call func(k int) api.Errno) []api.Errno {
	errnos := make([]api.Errno, count)
	start := make(chan bool)
	var all sync.WaitGroup
	for k := range count {
		all.Go(func() {
			<-start
			errnos[k] = call(k)
		})
	}
	close(start)
	all.Wait()
	return errnos
}

// countOf counts an error.
func countOf(errnos []api.Errno, want api.Errno) int {
	count := 0
	for _, e := range errnos {
		if e == want {
			count++
		}
	}
	return count
}

// TestOrdersTogether is of the chapter's words about goroutines: orders that come at the same time are done one after another.
func TestOrdersTogether(t *testing.T) {
	for range 20 {
		m := after(t, line3(), 2, "load 0")
		errnos := together(150, func(int) api.Errno { return m.Do("wait 1") })
		if countOf(errnos, api.OK) != 99 || countOf(errnos, api.ErrLarge) != 51 || !m.Audit() {
			t.Fatal(errnos, look(m))
		}
		wantHeats(t, m, 99)
	}
	for range 200 {
		m := after(t, full(6), 100)
		errnos := together(12, func(k int) api.Errno { return m.Do([]string{"load 0", "load 1"}[k%2]) })
		if countOf(errnos, api.OK) != 2 || countOf(errnos, api.ErrTwice) != 10 || !m.Audit() {
			t.Fatal(errnos, look(m))
		}
		errnos = together(3, func(k int) api.Errno { return m.Do([]string{"move 0 2", "move 1 2", "load 2"}[k]) })
		if done := countOf(errnos, api.OK); done != 1 || countOf(errnos, api.ErrTwice) != 2 || !m.Audit() {
			t.Fatal(errnos, look(m))
		}
		errnos = together(16, func(int) api.Errno { return m.Do("spin 0 1") })
		if countOf(errnos, api.OK) != 10 || countOf(errnos, api.ErrLarge) != 6 || !m.Audit() {
			t.Fatal(errnos, look(m))
		}
	}
}

// watch looks at a machine as long as orders are done, and returns the first log that is none that the machine had, or that does not go on with those before.
func watch(m *machine.Machine, stop chan bool) string {
	last := ""
	for {
		log := m.Log()
		_, rest := machine.Read(log)
		if rest != "" || !strings.HasPrefix(log, last) || !m.Audit() || len(m.Place()) > len(m.Heats()) || len(m.Left()) > api.MaxGates {
			return log + "\nafter\n" + last
		}
		last = log
		select {
		case <-stop:
			return ""
		default:
		}
	}
}

// TestLooksTogether is of the chapter's words about goroutines: what is told while orders are done is what the machine was at one moment.
func TestLooksTogether(t *testing.T) {
	for range 5 {
		m := after(t, line3(), 100, "load 0", "load 2", "load 1")
		stop := make(chan bool)
		wrong := make([]string, 4)
		var watchers sync.WaitGroup
		for k := range wrong {
			watchers.Go(func() { wrong[k] = watch(m, stop) })
		}
		orders := []string{"wait 1", "turn 0 1", "join 0 2 3", "cool 1", "drop", "spin 2 7", "move 0 1", "cool 0"}
		together(8, func(k int) api.Errno {
			for step := range 20 {
				m.Do(orders[(k+step)%len(orders)])
			}
			return api.OK
		})
		close(stop)
		watchers.Wait()
		if slices.ContainsFunc(wrong, func(text string) bool { return text != "" }) || !m.Audit() {
			t.Fatalf("%q", wrong)
		}
	}
}
