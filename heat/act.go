package heat

import "quadrupole/api"

// The kinds of acts.
const (
	kindMove    = 0
	kindGate    = 1
	kindCooling = 2
)

// act is an act whose type tells its kind.
type act interface {
	after(heat int) int // the heat of the ion after the act, from that before it
}

// warming is an act that brings heat.
type warming struct{ api.Act }

func (w warming) after(heat int) int {
	return heat + w.Heat
}

type move struct{ warming }

type gate struct{ warming }

type cooling struct{}

func (cooling) after(int) int {
	return 0
}

// actOf returns a valid act as one whose type tells its kind.
func actOf(a api.Act) act {
	switch a.Kind {
	case kindGate:
		return gate{warming{a}}
	case kindCooling:
		return cooling{}
	}
	return move{warming{a}}
}

func isGate(a api.Act) bool {
	_, is := actOf(a).(gate)
	return is
}

func isCooling(a api.Act) bool {
	_, is := actOf(a).(cooling)
	return is
}

// moment is the act before it with the heats that all ions have after this act.
type moment struct {
	api.Act
	heats [api.MaxQubits]int
}

// momentsOf returns the moments after the acts of a valid plan.
func momentsOf(plan []api.Act) []moment {
	moments := make([]moment, len(plan))
	var heats [api.MaxQubits]int
	for i, a := range plan {
		heats[a.Ion] = actOf(a).after(heats[a.Ion])
		moments[i] = moment{a, heats}
	}
	return moments
}

// gateHeat returns the heat of the ion before the gate that was before the moment. Another act is never too hot, as if the ion had been cold.
func (m moment) gateHeat() int {
	if isGate(m.Act) {
		return m.heats[m.Ion] - m.Heat
	}
	return 0
}
