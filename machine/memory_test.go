package machine_test

import (
	"slices"
	"testing"

	"quadrupole/api"
	"quadrupole/machine"
)

// example is a machine of which all that is told is not empty.
func example(t *testing.T) *machine.Machine {
	t.Helper()
	return after(t, line3(), 2, "load 0", "load 2", "move 1 1", "cool 1", "join 1 0 4", "turn 0 3", "wait 5")
}

// overwrite writes another value over all that is in the memory of a list.
func overwrite[T any](list []T, other T) {
	list = list[:cap(list)]
	for k := range list {
		list[k] = other
	}
}

// TestResultsAreNew is of P9.3 with R5: who overwrites what a machine has told changes nothing, then or later.
func TestResultsAreNew(t *testing.T) {
	m := example(t)
	before := look(m)
	gate := api.Gate{Kind: 7}
	for _, list := range [][]int{m.Place(), m.Heats(), m.Warm()} {
		overwrite(list, 77)
	}
	overwrite(m.Circuit(), gate)
	overwrite(m.Left(), gate)
	if look(m) != before {
		t.Errorf("%s was %s", look(m), before)
	}
	for _, order := range []string{"cool 0", "cool 1", "turn 1 5", "move 0 0", "wait 3"} {
		m.Do(order)
		overwrite(append(m.Place(), 1)[:2], 88)
		overwrite(append(m.Heats(), 1)[:2], 88)
		overwrite(append(m.Circuit(), gate)[:2], gate)
	}
	if !m.Audit() {
		t.Error(look(m))
	}
}

// TestResultsStay is of P9.3 with R5: what a machine has told is not changed by later orders.
func TestResultsStay(t *testing.T) {
	m := example(t)
	place, heats, circuit, left, warm := m.Place(), m.Heats(), m.Circuit(), m.Left(), m.Warm()
	wantPlace, wantHeats, wantCircuit, wantLeft, wantWarm := slices.Clone(place), slices.Clone(heats), slices.Clone(circuit), slices.Clone(left), slices.Clone(warm)
	for _, order := range []string{"cool 0", "cool 1", "turn 0 5", "cool 0", "spin 1 5", "move 1 2", "move 0 1", "load 0", "wait 99", "drop", "cool 0", "turn 0 1"} {
		if e := m.Do(order); e != api.OK {
			t.Fatalf("%q: %v", order, e)
		}
	}
	if !slices.Equal(place, wantPlace) || !slices.Equal(heats, wantHeats) || !slices.Equal(circuit, wantCircuit) || !slices.Equal(left, wantLeft) || !slices.Equal(warm, wantWarm) {
		t.Error(place, heats, circuit, left, warm)
	}
}

// TestTrapIsKept is of New and Replay with R5: the machine has a trap of its own, and that of the caller is not changed.
func TestTrapIsKept(t *testing.T) {
	log := logOf([]string{"load 0", "load 2"})
	for _, made := range []func(api.Trap) *machine.Machine{
		func(x api.Trap) *machine.Machine { return after(t, x, 2, "load 0", "load 2") },
		func(x api.Trap) *machine.Machine { return replayed(t, x, 2, log).m },
	} {
		x := line3()
		m := made(x)
		if !slices.Equal(x.Links, line3().Links) {
			t.Error(x)
		}
		overwrite(x.Links, api.Link{A: 0, B: 2})
		doAll(t, m, []step{{"move 0 2", api.ErrRule}, {"join 0 1 4", api.ErrState}, {"move 0 1", api.OK}})
		if !m.Audit() {
			t.Error(look(m))
		}
	}
}

// TestListsAreKept is of P9.4 and P9.5 with R5 and R11: arguments are not changed, results are new, and equal calls return equal results.
func TestListsAreKept(t *testing.T) {
	orders := append(make([]string, 0, 9), "load 0", "bad", "move 0 1")
	behind := orders[:cap(orders)]
	before := slices.Clone(behind)
	log := must[string](t)(machine.Write(orders))
	es, text, e := machine.Run(line3(), 2, orders)
	overwrite(es, api.ErrProof)
	again, same, e2 := machine.Run(line3(), 2, orders)
	if !slices.Equal(again, []api.Errno{api.OK, api.ErrSyntax, api.OK}) || same != text || e != api.OK || e2 != api.OK {
		t.Error(again, same, text, e, e2)
	}
	if !slices.Equal(behind, before) {
		t.Errorf("%q was %q", behind, before)
	}
	first, _ := machine.Read(log)
	overwrite(first, "x")
	if second, rest := machine.Read(log); !slices.Equal(second, orders) || rest != "" {
		t.Error(second, rest)
	}
	overwrite(orders, "x")
	if got, e := machine.Write([]string{"load 0", "bad", "move 0 1"}); got != log || e != api.OK {
		t.Error(got, e)
	}
}
