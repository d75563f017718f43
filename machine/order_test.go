package machine_test

import (
	"fmt"
	"math/rand"
	"slices"
	"strings"
	"testing"

	"quadrupole/api"
	"quadrupole/machine"
)

// step is an order, and the error of it.
type step struct {
	order string
	want  api.Errno
}

// doAll does orders, and checks their errors.
func doAll(t *testing.T, m *machine.Machine, steps []step) {
	t.Helper()
	for k, s := range steps {
		before := look(m)
		if e := m.Do(s.order); e != s.want {
			t.Errorf("%d %q: %v, want %v", k, s.order, e, s.want)
		}
		if s.want != api.OK && look(m) != before {
			t.Errorf("%d %q is refused, but %s was %s", k, s.order, look(m), before)
		}
	}
}

// wantHeats checks the heats of the ions.
func wantHeats(t *testing.T, m *machine.Machine, want ...int) {
	t.Helper()
	if got := m.Heats(); !slices.Equal(got, want) {
		t.Errorf("the heats are %v, want %v", got, want)
	}
}

// TestExamples is of the examples of the chapter.
func TestExamples(t *testing.T) {
	m := must[*machine.Machine](t)(machine.New(line3(), 2))
	doAll(t, m, []step{{"load 0", 0}, {"load 2", 0}, {"join 0 1 4", api.ErrState}, {"move 0 1", 0}})
	wantHeats(t, m, 3, 0)
	doAll(t, m, []step{{"join 0 1 4", api.ErrRule}, {"cool 0", 0}, {"join 0 1 4", 0}})
	wantHeats(t, m, 2, 2)
	doAll(t, m, []step{{"turn 0 8", 0}})
	wantHeats(t, m, 3, 2)
	doAll(t, m, []step{{"turn 0 8", api.ErrRule}, {"move 0 2", api.ErrTwice}})
	wantHeats(t, m, 3, 2)
}

// TestSyntax is of the description of Do: what is an order. All numbers from 0 to 99 are of orders for which there is nothing.
func TestSyntax(t *testing.T) {
	m := must[*machine.Machine](t)(machine.New(line3(), 2))
	for n := range 120 {
		for _, form := range []string{"load %d", "cool %d", "wait %d", "move %d 9", "move 9 %d", "turn %d 9", "turn 9 %d", "spin %d 9", "spin 9 %d", "join %d 9 9", "join 9 %d 9", "join 9 9 %d"} {
			order := fmt.Sprintf(form, n)
			if e := m.Do(order); (e == api.ErrSyntax) != (n > 99) {
				t.Errorf("%q: %v", order, e)
			}
		}
	}
	good := []string{"load 0", "move 0 1", "cool 0", "wait 1", "turn 0 8", "spin 0 8", "join 0 1 4", "drop"}
	bad := []string{
		"", " ", "x", "load", "move", "move 0", "move 0 1 2", "cool", "cool 0 0", "wait", "wait 1 2", "turn 0", "turn 0 8 8", "spin 0", "spin 0 8 8",
		"join 0 1", "join 0 1 4 4", "drop 0", "load 00", "load 01", "load -0", "load -1", "load +1", "load 100", "load 1_0", "load 0x1", "load 1.0", "load 1e1",
		"load a", "load ", "load  0", "load\t0", "load\n0", "load0", "Load 0", "LOAD 0", "l 0", "loads 0", "load 0\x00", "load \u0661", "load 99999999999999999999",
		"move 0  1", "join 0 1 04", "join 00 1 4", "join 0 -1 4", "move Z 1", "load Z", "drop drop", "wait 1 ", "\ufeffwait 1",
	}
	for _, order := range good {
		bad = append(bad, " "+order, order+" ", order+"\n", order+"\r\n", order+"\x00", order+strings.Repeat(" ", 30), strings.ToUpper(order), order[1:], strings.ReplaceAll(order, " ", "  "))
	}
	for _, order := range bad {
		if slices.Contains(good, order) {
			continue
		}
		if e := m.Do(order); e != api.ErrSyntax {
			t.Errorf("%q: %v", order, e)
		}
	}
	for _, order := range []string{strings.Repeat("9", 31), "wait " + strings.Repeat("0", 25) + "1", strings.Repeat("wait 1 ", 1<<20)} {
		if e := m.Do(order); e != api.ErrSyntax {
			t.Errorf("an order of %d bytes: %v", len(order), e)
		}
	}
}

// TestSyntaxNear is of the description of Do, for orders in which one byte is another one, or is left out, or is put in.
func TestSyntaxNear(t *testing.T) {
	m := must[*machine.Machine](t)(machine.New(line3(), 2))
	is := &model{t: line3(), limit: 2}
	for _, order := range []string{"load 10", "move 9 11", "cool 9", "wait 0", "turn 9 8", "spin 9 15", "join 9 8 14", "drop"} {
		for k := range len(order) + 1 {
			for b := range 256 {
				near := []string{order[:k] + string([]byte{byte(b)}) + order[k:]}
				if k < len(order) {
					near = append(near, order[:k]+string([]byte{byte(b)})+order[k+1:], order[:k]+order[k+1:])
				}
				for _, other := range near {
					if got, want := m.Do(other), is.do(other); got != want {
						t.Errorf("%q: %v, want %v", other, got, want)
					}
				}
			}
		}
		m, is = must[*machine.Machine](t)(machine.New(line3(), 2)), &model{t: line3(), limit: 2}
	}
}

// TestShuttle is of P9.1: each order, and its errors in their order.
func TestShuttle(t *testing.T) {
	m := must[*machine.Machine](t)(machine.New(trap(5, [2]int{0, 1}, [2]int{1, 2}, [2]int{3, 4}), 0))
	doAll(t, m, []step{
		{"wait 1", 0}, {"wait 0", api.ErrArg}, {"cool 0", api.ErrNone}, {"move 0 0", api.ErrNone}, {"load 5", api.ErrNone}, {"load 99", api.ErrNone},
		{"load 1", 0}, {"load 1", api.ErrTwice}, {"wait 7", 0}, {"load 2", 0}, {"cool 2", api.ErrNone},
	})
	wantHeats(t, m, 7, 0)
	doAll(t, m, []step{
		{"move 2 0", api.ErrNone}, {"move 0 5", api.ErrNone}, {"move 2 5", api.ErrNone}, {"move 0 3", api.ErrRule}, {"move 0 1", api.ErrRule},
		{"move 1 2", api.ErrRule}, {"move 1 0", api.ErrRule}, {"move 0 2", api.ErrTwice}, {"move 1 1", api.ErrTwice}, {"move 0 0", 0}, {"move 1 0", api.ErrRule}, {"move 1 1", 0},
	})
	wantHeats(t, m, 10, 3)
	doAll(t, m, []step{{"load 3", 0}, {"load 4", 0}, {"load 2", api.ErrLarge}, {"load 0", api.ErrLarge}, {"load 5", api.ErrNone}, {"wait 2", 0}, {"cool 0", 0}, {"cool 3", 0}, {"cool 3", 0}})
	wantHeats(t, m, 0, 5, 2, 0)
	if moves, coolings, count := m.Counts(); moves != 2 || coolings != 3 || count != 0 {
		t.Error(moves, coolings, count)
	}
	if !slices.Equal(m.Place(), []int{0, 1, 3, 4}) || !slices.Equal(m.Warm(), []int{1, 2}) {
		t.Error(m.Place(), m.Warm())
	}
}

// TestHottest is of P9.1: no heat grows above 1000.
func TestHottest(t *testing.T) {
	m := after(t, line3(), 100, "load 0", "load 2")
	for range 10 {
		doAll(t, m, []step{{"wait 99", 0}})
	}
	doAll(t, m, []step{{"wait 7", 0}})
	wantHeats(t, m, 997, 997)
	doAll(t, m, []step{{"move 0 1", 0}})
	wantHeats(t, m, 1000, 997)
	doAll(t, m, []step{{"wait 1", 0}})
	wantHeats(t, m, 1000, 998)
	doAll(t, m, []step{{"move 0 0", 0}, {"move 1 1", 0}})
	wantHeats(t, m, 1000, 1000)
	doAll(t, m, []step{{"cool 1", 0}, {"wait 99", 0}})
	wantHeats(t, m, 1000, 99)
}

// TestGates is of P9.2: each order, and its errors in their order.
func TestGates(t *testing.T) {
	m := must[*machine.Machine](t)(machine.New(line3(), 3))
	doAll(t, m, []step{{"drop", api.ErrState}, {"turn 0 1", api.ErrNone}, {"spin 0 1", api.ErrNone}, {"join 0 0 0", api.ErrNone}, {"load 2", 0}, {"load 1", 0}, {"load 0", 0}})
	for _, word := range []string{"turn", "spin"} {
		doAll(t, m, []step{{word + " 3 1", api.ErrNone}, {word + " 3 0", api.ErrNone}, {word + " 0 0", api.ErrArg}, {word + " 0 16", api.ErrArg}, {word + " 0 99", api.ErrArg}})
	}
	doAll(t, m, []step{
		{"join 3 0 1", api.ErrNone}, {"join 0 3 1", api.ErrNone}, {"join 3 3 0", api.ErrNone}, {"join 0 3 16", api.ErrNone}, {"join 0 0 1", api.ErrArg}, {"join 0 0 0", api.ErrArg},
		{"join 0 1 0", api.ErrArg}, {"join 0 1 16", api.ErrArg}, {"join 0 2 0", api.ErrArg}, {"join 2 0 1", api.ErrState}, {"join 0 2 1", api.ErrState},
		{"turn 0 15", 0}, {"spin 1 1", 0}, {"join 1 0 2", 0}, {"join 1 2 15", 0},
	})
	wantHeats(t, m, 3, 5, 2)
	doAll(t, m, []step{
		{"turn 0 0", api.ErrArg}, {"turn 1 0", api.ErrArg}, {"join 1 1 3", api.ErrArg}, {"join 1 2 3", api.ErrRule}, {"join 2 1 3", api.ErrRule}, {"join 1 0 3", api.ErrRule}, {"turn 1 3", api.ErrRule}, {"spin 1 3", api.ErrRule},
		{"turn 0 3", 0}, {"turn 0 3", api.ErrRule}, {"join 2 0 1", api.ErrState},
	})
	if want := (gates{x(0, 15), z(1, 1), j(0, 1, 2), j(1, 2, 15), x(0, 3)}); !slices.Equal(m.Circuit(), want) {
		t.Errorf("%v, want %v", m.Circuit(), want)
	}
	if want := (gates{x(0, 2), z(1, 1), j(0, 1, 2), j(1, 2, 15)}); !slices.Equal(m.Left(), want) {
		t.Errorf("%v, want %v", m.Left(), want)
	}
	doAll(t, m, []step{{"drop", 0}, {"drop", api.ErrState}})
	if moves, coolings, count := m.Counts(); moves != 0 || coolings != 0 || count != 5 || len(m.Circuit()) != 0 || len(m.Left()) != 0 {
		t.Error(moves, coolings, count, m.Circuit(), m.Left())
	}
	wantHeats(t, m, 4, 5, 2)
}

// TestFullCircuit is of P9.2: what a gate needs comes before ErrLarge, and a circuit that is dropped has room again.
func TestFullCircuit(t *testing.T) {
	m := after(t, line3(), 20, "load 0", "load 1", "load 2")
	for range 5 {
		doAll(t, m, []step{{"spin 0 1", 0}, {"turn 2 1", 0}})
	}
	doAll(t, m, []step{
		{"spin 0 1", api.ErrLarge}, {"turn 0 1", api.ErrLarge}, {"join 0 1 1", api.ErrLarge}, {"join 2 1 1", api.ErrLarge},
		{"spin 3 1", api.ErrNone}, {"spin 0 16", api.ErrArg}, {"join 1 1 1", api.ErrArg}, {"join 0 2 1", api.ErrState}, {"wait 16", 0},
		{"spin 0 1", api.ErrRule}, {"turn 2 1", api.ErrRule}, {"join 0 1 1", api.ErrRule}, {"join 0 2 1", api.ErrState}, {"spin 1 1", api.ErrLarge}, {"cool 0", 0}, {"spin 0 1", api.ErrLarge}, {"drop", 0}, {"spin 0 1", 0},
	})
	if moves, coolings, count := m.Counts(); moves != 0 || coolings != 1 || count != 11 {
		t.Error(moves, coolings, count)
	}
}

// TestLimits is of P9.2 and P9.3: a heat that is the limit is not above it.
func TestLimits(t *testing.T) {
	for limit := range api.MaxHeat + 1 {
		m := after(t, line3(), limit, "load 0", "load 1")
		for heat := range limit + 3 {
			want := api.OK
			if heat > limit {
				want = api.ErrRule
			}
			for _, order := range []string{"turn 0 1", "spin 1 1", "join 0 1 1"} {
				at := after(t, line3(), limit, "load 0", "load 1")
				for left := heat; left > 0; left -= min(left, 99) {
					doAll(t, at, []step{{fmt.Sprintf("wait %d", min(left, 99)), 0}})
				}
				if e := at.Do(order); e != want {
					t.Errorf("the limit %d, the heat %d: %q: %v", limit, heat, order, e)
				}
				m = at
			}
		}
		if !slices.Equal(m.Warm(), []int{0, 1}) || !m.Audit() {
			t.Errorf("the limit %d: %v", limit, m.Warm())
		}
	}
}

// TestFullLog is of the description of Do: only what is no order is refused with another error when the log is full.
func TestFullLog(t *testing.T) {
	m := after(t, line3(), 2, "load 0")
	for range api.MaxPages - 2 {
		doAll(t, m, []step{{"cool 0", 0}, {"bad", api.ErrSyntax}, {"load 9", api.ErrNone}})
	}
	doAll(t, m, []step{{"cool 1", api.ErrNone}, {"wait 1", 0}})
	for _, order := range []string{"cool 0", "cool 1", "load 9", "load 0", "load 1", "move 0 1", "move 0 2", "wait 0", "wait 1", "turn 0 1", "turn 0 0", "spin 9 9", "join 0 0 0", "drop"} {
		doAll(t, m, []step{{order, api.ErrLarge}})
	}
	doAll(t, m, []step{{"", api.ErrSyntax}, {"cool", api.ErrSyntax}, {"wait 100", api.ErrSyntax}, {"drop ", api.ErrSyntax}})
	if got := strings.Count(m.Log(), "\n"); got != api.MaxPages || !m.Audit() {
		t.Error(got)
	}
}

// TestModel is of P9.1 to P9.3 and S9: machines do what the model does, no ion is where another one is, and what is refused changes nothing.
func TestModel(t *testing.T) {
	r := rand.New(rand.NewSource(99))
	outcomes := map[string]int{}
	for _, x := range someTraps() {
		for range 16 {
			limit := randomLimit(r)
			m, is := must[*machine.Machine](t)(machine.New(x, limit)), &model{t: x, limit: limit}
			for range 160 {
				order := randomOrder(r, is)
				got, want := m.Do(order), is.do(order)
				if got != want || look(m) != is.look() {
					t.Fatalf("%v, %d, %q, %q: %v, want %v; %s, want %s", x, limit, is.orders, order, got, want, look(m), is.look())
				}
				outcomes[strings.Fields(order + " .")[0]+" "+fmt.Sprint(int(want))]++
				if place := slices.Sorted(slices.Values(m.Place())); len(slices.Compact(place)) != len(m.Place()) {
					t.Fatalf("two ions are in one zone: %v", m.Place())
				}
			}
		}
	}
	for _, outcome := range []string{
		"load 0", "load 3", "load 4", "load 6", "move 0", "move 4", "move 6", "move 8", "cool 0", "cool 4", "wait 0", "wait 1", "wait 2",
		"turn 0", "turn 1", "turn 3", "turn 4", "turn 8", "spin 0", "spin 1", "spin 3", "spin 4", "spin 8", "join 0", "join 1", "join 3", "join 4", "join 8", "join 9", "drop 0", "drop 9",
	} {
		if outcomes[outcome] < 20 {
			t.Errorf("%q came only %d times", outcome, outcomes[outcome])
		}
	}
}
