package heat_test

import (
	"math/rand"
	"slices"
	"testing"

	"quadrupole/api"
)

// acts is a plan.
type acts = []api.Act

func move(ion, by int) api.Act { return api.Act{Kind: 0, Ion: ion, Heat: by} }
func gate(ion, by int) api.Act { return api.Act{Kind: 1, Ion: ion, Heat: by} }
func cool(ion int) api.Act     { return api.Act{Kind: 2, Ion: ion} }

// everyPlan lists the plans of a length that are made of some acts.
func everyPlan(length int, of ...api.Act) []acts {
	if length == 0 {
		return []acts{nil}
	}
	var all []acts
	for _, plan := range everyPlan(length-1, of...) {
		for _, a := range of {
			all = append(all, append(slices.Clone(plan), a))
		}
	}
	return all
}

// sample is a plan with its number of ions.
type sample struct {
	n    int
	plan acts
}

// shortSamples are all short plans of few acts.
func shortSamples() []sample {
	var all []sample
	for length := range 6 {
		for _, plan := range everyPlan(length, move(0, 2), gate(0, 1), gate(0, 0), cool(0)) {
			all = append(all, sample{1, plan})
		}
	}
	for length := range 5 {
		for _, plan := range everyPlan(length, gate(0, 2), move(1, 3), gate(1, 1), cool(1)) {
			all = append(all, sample{2, plan})
		}
	}
	return all
}

// longSamples are plans of any length and of any number of ions, the same ones each time.
func longSamples() []sample {
	var all []sample
	r := rand.New(rand.NewSource(5))
	for n := 1; n <= api.MaxQubits; n++ {
		for _, heat := range []int{1, 3, 9, 50, api.MaxHeat} {
			for range 30 {
				plan := make(acts, 5+r.Intn(api.MaxActs-4))
				for i := range plan {
					plan[i] = anyAct(r, n, heat)
				}
				all = append(all, sample{n, plan})
			}
		}
	}
	return all
}

// anyAct is more often a gate than a move, and seldom a cooling.
func anyAct(r *rand.Rand, n, heat int) api.Act {
	ion, by := r.Intn(n), r.Intn(heat+1)
	switch k := r.Intn(9); {
	case k == 0:
		return cool(ion)
	case k < 4:
		return move(ion, by)
	}
	return gate(ion, by)
}

func samples() []sample {
	return append(shortSamples(), longSamples()...)
}

// someLimits are limits that are near to the heats of the samples.
func someLimits() []int {
	return []int{0, 1, 2, 3, 4, 5, 8, 13, 30, 60, 99, 100}
}

// heatAfter tells by the words of the chapter the heat of an ion after some acts: the sum of what came after its last cooling.
func heatAfter(done acts, ion int) int {
	sum := 0
	for i := len(done) - 1; i >= 0; i-- {
		if done[i].Ion == ion && done[i].Kind == 2 {
			break
		}
		if done[i].Ion == ion {
			sum += done[i].Heat
		}
	}
	return sum
}

// hotGates tells by the words of the chapter which gates are too hot.
func hotGates(plan acts, limit int) []int {
	var hot []int
	for i, a := range plan {
		if a.Kind == 1 && heatAfter(plan[:i], a.Ion) > limit {
			hot = append(hot, i)
		}
	}
	return hot
}

// can reports whether so many coolings can be put in, anywhere, that a plan fits a limit.
func can(n int, plan acts, limit, coolings int) bool {
	if coolings == 0 {
		return len(hotGates(plan, limit)) == 0
	}
	for at := range len(plan) + 1 {
		for ion := range n {
			if can(n, slices.Insert(slices.Clone(plan), at, cool(ion)), limit, coolings-1) {
				return true
			}
		}
	}
	return false
}

// isLeft tells by the words of the chapter whether coolings can be left out of with so that the plan is left.
func isLeft(plan, with acts) bool {
	if len(with) == 0 {
		return len(plan) == 0
	}
	if with[0].Kind == 2 && isLeft(plan, with[1:]) {
		return true
	}
	return len(plan) > 0 && plan[0] == with[0] && isLeft(plan[1:], with[1:])
}

// isWindow tells by the words of the chapter whether w is a window, of whichever numbers.
func isWindow(plan acts, limit int, w api.Window) bool {
	if w.From < 0 || w.To >= len(plan) || w.From >= w.To {
		return false
	}
	first, last := plan[w.From], plan[w.To]
	if first.Ion != w.Ion || first.Kind == 2 || last.Ion != w.Ion || last.Kind != 1 {
		return false
	}
	sum := 0
	for i := w.From; i <= w.To; i++ {
		if plan[i].Ion == w.Ion && plan[i].Kind == 2 {
			return false
		}
		if plan[i].Ion == w.Ion && i < w.To {
			sum += plan[i].Heat
		}
	}
	return sum > limit
}

// everyWindow lists the windows of a plan.
func everyWindow(n int, plan acts, limit int) []api.Window {
	var all []api.Window
	for ion := range n {
		for from := range plan {
			for to := range plan {
				if w := (api.Window{Ion: ion, From: from, To: to}); isWindow(plan, limit, w) {
					all = append(all, w)
				}
			}
		}
	}
	return all
}

func doMeet(v, w api.Window) bool {
	return v.Ion == w.Ion && v.From < w.To && w.From < v.To
}

// mostApart returns the number of as many windows as possible of which no two meet.
func mostApart(all []api.Window) int {
	if len(all) == 0 {
		return 0
	}
	first, rest := all[0], all[1:]
	apart := slices.DeleteFunc(slices.Clone(rest), func(w api.Window) bool { return doMeet(first, w) })
	return max(mostApart(rest), 1+mostApart(apart))
}

// must returns the value of a call that gave no error.
func must[T any](t *testing.T) func(T, api.Errno) T {
	return func(value T, e api.Errno) T {
		t.Helper()
		if e != api.OK {
			t.Fatal(e)
		}
		return value
	}
}
