package machine

import (
	"strconv"
	"testing"

	"quadrupole/api"
)

// sound returns a machine that orders have made.
func sound(t *testing.T) *Machine {
	t.Helper()
	m, e := New(api.Trap{Zones: 3, Links: []api.Link{{A: 0, B: 1}, {A: 1, B: 2}}}, 2)
	if e != api.OK {
		t.Fatal(e)
	}
	for _, text := range []string{"load 0", "load 2", "move 1 1", "cool 1", "join 0 1 4", "cool 1", "turn 0 3"} {
		if e := m.Do(text); e != api.OK {
			t.Fatalf("%q: %v", text, e)
		}
	}
	return m
}

// TestAudit is of P9.3: no order makes a machine that is not sound, so the tests make some by writing over the state.
func TestAudit(t *testing.T) {
	if !sound(t).Audit() {
		t.Error("a machine that orders have made is not sound")
	}
	for k, spoil := range []func(s *state){
		func(s *state) { s.place[0] = 3 },
		func(s *state) { s.place[0] = -1 },
		func(s *state) { s.place[0] = s.place[1] },
		func(s *state) { s.place[0] = 2 },
		func(s *state) { s.place = nil },
		func(s *state) { s.heats[0] = -1 },
		func(s *state) { s.heats[1]++ },
		func(s *state) { s.heats = s.heats[:1] },
		func(s *state) { s.gates[0].Angle = 0 },
		func(s *state) { s.gates[0].B = 2 },
		func(s *state) { s.gates[0].Angle = 5 },
		func(s *state) { s.gates = nil },
		func(s *state) { s.gates[0], s.gates[1] = s.gates[1], s.gates[0] },
		func(s *state) { s.done.moves++ },
		func(s *state) { s.done.coolings-- },
		func(s *state) { s.done.gates++ },
		func(s *state) { s.orders = s.orders[:6] },
		func(s *state) { s.orders[5] = "cool 0" },
		func(s *state) { s.orders = append(s.orders, "bad") },
		func(s *state) { s.orders = append(s.orders, "cool 0") },
		func(s *state) { s.orders[0] = "" },
		func(s *state) { s.limit = 0 },
		func(s *state) { s.limit = -1 },
		func(s *state) { s.trap.Links = s.trap.Links[:1] },
		func(s *state) { s.trap.Links[1].B = 3 },
		func(s *state) { s.trap.Zones = 0 },
		func(s *state) { *s = state{} },
	} {
		m := sound(t)
		spoil(&m.state)
		if m.Audit() {
			t.Errorf("%d: the machine is not sound, but Audit is true", k)
		}
	}
}

// TestIsSound is of P9.3: what is asked of the state beside the log.
func TestIsSound(t *testing.T) {
	trap := api.Trap{Zones: 2}
	gate := api.Gate{Kind: turnX, A: 0, B: noQubit, Angle: 1}
	for k, c := range []struct {
		s    state
		want bool
	}{
		{state{trap: trap}, true},
		{state{trap: trap, place: []int{1}, heats: []int{0}, gates: []api.Gate{gate}}, true},
		{state{trap: trap, gates: []api.Gate{gate}}, false},
		{state{trap: trap, place: []int{2}, heats: []int{0}}, false},
		{state{trap: trap, place: []int{1, 1}, heats: []int{0, 0}}, false},
		{state{trap: trap, place: []int{1, 0}, heats: []int{0, -1}}, false},
		{state{trap: trap, place: []int{1}, heats: []int{0}, gates: []api.Gate{{Kind: turnX, A: 1, B: noQubit, Angle: 1}}}, false},
		{state{trap: trap, place: []int{1}, heats: []int{0}, gates: []api.Gate{{Kind: turnX, A: 0, B: noQubit}}}, false},
	} {
		if got := c.s.isSound(); got != c.want {
			t.Errorf("%d: %v, want %v", k, got, c.want)
		}
	}
}

// TestRefusal checks that a refused order says why it is.
func TestRefusal(t *testing.T) {
	s := state{trap: api.Trap{Zones: 2}}
	err := s.do("load 2")
	if err == nil || reason(err) != api.ErrNone || err.Error() != "the order is refused with the error "+strconv.Itoa(int(api.ErrNone)) {
		t.Error(err)
	}
	if err := s.do("load 1"); err != nil || reason(err) != api.OK {
		t.Error(err)
	}
}
