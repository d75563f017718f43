package machine

import (
	"slices"

	"quadrupole/api"
	"quadrupole/circuit"
	"quadrupole/zone"
)

// The kinds of gates.
const (
	turnX    = 0
	turnZ    = 1
	coupling = 2
)

// noQubit is the B of a gate with a single qubit.
const noQubit = -1

// What the heat of an ion grows by, and where it stays.
const (
	heatOfMove     = 3
	heatOfTurn     = 1
	heatOfCoupling = 2
	hottest        = 1000
)

// counts are how many moves, coolings and gates were done.
type counts struct {
	moves, coolings, gates int
}

// state is all that a machine is at one moment.
type state struct {
	trap   api.Trap
	limit  int
	place  []int
	heats  []int
	gates  []api.Gate
	done   counts
	orders []string
}

// clone returns a copy that later orders do not change. The trap is one that never changes.
func (s *state) clone() state {
	c := *s
	c.place = slices.Clone(s.place)
	c.heats = slices.Clone(s.heats)
	c.gates = slices.Clone(s.gates)
	c.orders = slices.Clone(s.orders)
	return c
}

// equals reports whether two machines have the same place, heats, circuit, counts and log.
func (s *state) equals(t state) bool {
	return slices.Equal(s.place, t.place) && slices.Equal(s.heats, t.heats) && slices.Equal(s.gates, t.gates) &&
		s.done == t.done && slices.Equal(s.orders, t.orders)
}

// isSound reports whether the place is one of the trap, no heat is below 0, and the circuit is one of the ions.
func (s *state) isSound() bool {
	return zone.ValidatePlace(s.trap, s.place) == api.OK &&
		!slices.ContainsFunc(s.heats, func(heat int) bool { return heat < 0 }) &&
		(len(s.gates) == 0 || circuit.Validate(len(s.place), s.gates) == api.OK)
}

// isWarm reports whether the heat of an ion is above the limit.
func (s *state) isWarm(ion int) bool {
	return s.heats[ion] > s.limit
}

// heat lets the heat of an ion grow.
func (s *state) heat(ion, by int) {
	s.heats[ion] = min(s.heats[ion]+by, hottest)
}

// do executes an order and adds it to the log, or returns the refusal of it and changes nothing.
func (s *state) do(text string) error {
	o, ok := parse(text)
	if !ok {
		return refusal(api.ErrSyntax)
	}
	if len(s.orders) >= api.MaxPages {
		return refusal(api.ErrLarge)
	}
	if !s.hasAll(o) {
		return refusal(api.ErrNone)
	}
	if e := s.execute(o); e != api.OK {
		return refusal(e)
	}
	s.orders = append(s.orders, text)
	return nil
}

// hasAll reports whether there are the ions and the zones of an order.
func (s *state) hasAll(o order) bool {
	for k, letter := range forms[o.kind].letters {
		switch letter {
		case anIon:
			if o.numbers[k] >= len(s.place) {
				return false
			}
		case aZone:
			if o.numbers[k] >= s.trap.Zones {
				return false
			}
		}
	}
	return true
}

// execute executes an order whose ions and zones there are, or changes nothing if it returns an error.
func (s *state) execute(o order) api.Errno {
	n := o.numbers
	switch o.kind {
	case load:
		return s.load(n[0])
	case move:
		return s.move(n[0], n[1])
	case cool:
		return s.cool(n[0])
	case wait:
		return s.wait(n[0])
	case turn:
		return s.apply(api.Gate{Kind: turnX, A: n[0], B: noQubit, Angle: n[1]}, heatOfTurn, n[0])
	case spin:
		return s.apply(api.Gate{Kind: turnZ, A: n[0], B: noQubit, Angle: n[1]}, heatOfTurn, n[0])
	case join:
		return s.apply(api.Gate{Kind: coupling, A: min(n[0], n[1]), B: max(n[0], n[1]), Angle: n[2]}, heatOfCoupling, n[0], n[1])
	}
	return s.drop()
}

// load brings a new ion into a zone.
func (s *state) load(to int) api.Errno {
	place := append(slices.Clone(s.place), to)
	if e := zone.ValidatePlace(s.trap, place); e != api.OK {
		return e
	}
	s.place = place
	s.heats = append(s.heats, 0)
	return api.OK
}

// move brings an ion to a zone near to its own.
func (s *state) move(ion, to int) api.Errno {
	place, _, e := zone.CheckPlan(s.trap, s.place, []api.Move{{Ion: ion, To: to}})
	if e != api.OK {
		return e
	}
	s.place = place
	s.heat(ion, heatOfMove)
	s.done.moves++
	return api.OK
}

// cool takes all heat from an ion.
func (s *state) cool(ion int) api.Errno {
	s.heats[ion] = 0
	s.done.coolings++
	return api.OK
}

// wait lets all ions grow warmer.
func (s *state) wait(by int) api.Errno {
	if by == 0 {
		return api.ErrArg
	}
	for ion := range s.heats {
		s.heat(ion, by)
	}
	return api.OK
}

// apply adds a gate of some ions to the circuit, and heats them.
func (s *state) apply(g api.Gate, by int, ions ...int) api.Errno {
	one := []api.Gate{g}
	if e := circuit.Validate(api.MaxQubits, one); e != api.OK { // also of a coupling of an ion with itself
		return e
	}
	if g.Kind == coupling && !s.linked(g.A, g.B) {
		return api.ErrState
	}
	if slices.ContainsFunc(ions, s.isWarm) {
		return api.ErrRule
	}
	gates, e := circuit.Join(api.MaxQubits, s.gates, one)
	if e != api.OK {
		return e
	}
	s.gates = gates
	for _, ion := range ions {
		s.heat(ion, by)
	}
	s.done.gates++
	return api.OK
}

// linked reports whether the zones of two ions have a link.
func (s *state) linked(i, j int) bool {
	near, _ := zone.Near(s.trap, s.place[i]) // the zone of an ion is one of the trap
	return slices.Contains(near, s.place[j])
}

// drop makes the circuit empty.
func (s *state) drop() api.Errno {
	if len(s.gates) == 0 {
		return api.ErrState
	}
	s.gates = nil
	return api.OK
}
