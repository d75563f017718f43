package circuit_test

import (
	"math"
	"testing"

	"quadrupole/api"
	"quadrupole/circuit"
)

var (
	tooMany  = make(list, api.MaxGates+1) // and none of them is a gate
	badGate  = list{x(0, 1), {Kind: 0, A: 0, B: 0, Angle: 1}}
	fullOfX  = list{x(0, 1), x(0, 2), x(0, 3), x(0, 4), x(0, 5), x(0, 6), x(0, 7), x(0, 8), x(0, 9), x(0, 10)}
	tooManyX = append(list{x(0, 11)}, fullOfX...)
)

// noGates are no gates of n qubits.
func noGates(n int) list {
	all := list{
		{},
		{Kind: -1, A: 0, B: -1, Angle: 1},
		{Kind: 3, A: 0, B: -1, Angle: 1},
		{Kind: 3, A: 0, B: 1, Angle: 1},
		{Kind: math.MinInt, A: 0, B: -1, Angle: 1},
		{Kind: math.MaxInt, A: 0, B: 1, Angle: 1},
		j(1, 0, 1), j(0, 0, 1), j(-1, 0, 1), j(0, n, 1), j(n-1, n, 1), j(n, n+1, 1), j(0, -1, 1),
		j(math.MinInt, 0, 1), j(0, math.MaxInt, 1), j(math.MinInt, math.MaxInt, 1),
		{Kind: 2, A: 0, B: 1, Angle: 0}, {Kind: 2, A: 0, B: 1, Angle: api.Turn},
	}
	for kind := range 2 {
		for _, a := range []int{-1, n, math.MinInt, math.MaxInt} {
			all = append(all, api.Gate{Kind: kind, A: a, B: -1, Angle: 1})
		}
		for _, b := range []int{0, 1, -2, math.MinInt, math.MaxInt} {
			all = append(all, api.Gate{Kind: kind, A: 0, B: b, Angle: 1})
		}
		for _, angle := range []int{0, -1, api.Turn, math.MinInt, math.MaxInt} {
			all = append(all, api.Gate{Kind: kind, A: 0, B: -1, Angle: angle})
		}
	}
	return all
}

// TestValidate is of P2.1.
func TestValidate(t *testing.T) {
	for i, c := range []struct {
		n    int
		c    list
		want api.Errno
	}{
		{1, nil, api.OK},
		{4, list{}, api.OK},
		{1, fullOfX, api.OK},
		{2, list{x(0, 1), x(1, 15), z(0, 15), z(1, 1), j(0, 1, 1)}, api.OK},
		{4, list{j(0, 3, 15), j(2, 3, 1), z(3, 8)}, api.OK},
		{0, nil, api.ErrArg},
		{5, nil, api.ErrArg},
		{-1, tooMany, api.ErrArg},
		{math.MaxInt, tooMany, api.ErrArg},
		{math.MinInt, badGate, api.ErrArg},
		{1, tooMany, api.ErrLarge},
		{1, tooManyX, api.ErrLarge},
		{2, badGate, api.ErrArg},
		{1, list{j(0, 1, 1)}, api.ErrArg},
		{3, list{x(3, 1)}, api.ErrArg},
	} {
		if e := circuit.Validate(c.n, c.c); e != c.want {
			t.Errorf("%d: %v, want %v", i, e, c.want)
		}
	}
}

// TestGates is of P2.1: what is a gate, and what is none, at each place of a circuit.
func TestGates(t *testing.T) {
	for n := 1; n <= api.MaxQubits; n++ {
		for _, g := range gatesOf(n, 1, 2, 8, 14, 15) {
			if e := circuit.Validate(n, list{x(0, 1), g}); e != api.OK {
				t.Errorf("%v of %d qubits: %v", g, n, e)
			}
		}
		for _, g := range noGates(n) {
			for i, c := range []list{{g}, {g, x(0, 1)}, {x(0, 1), g}} {
				if e := circuit.Validate(n, c); e != api.ErrArg {
					t.Errorf("%d: %v of %d qubits: %v", i, g, n, e)
				}
			}
		}
	}
}

// outcome is the error of a call, and whether all its other results are zero values.
type outcome struct {
	name  string
	e     api.Errno
	empty bool
}

// callsOfOne are the functions of one circuit; their other arguments are wrong if bad is true.
func callsOfOne(n int, c list, bad bool) []outcome {
	g, to := x(0, 1), []int{0, 1, 2, 3}[:min(max(n, 0), 4)]
	if bad {
		g, to = x(0, 0), []int{7}
	}
	name, e1 := circuit.Name(n, c)
	count, e2 := circuit.Count(n, c)
	layers, e3 := circuit.Layers(n, c)
	depth, e4 := circuit.Depth(n, c)
	short, e5 := circuit.IsShort(n, c)
	left, e6 := circuit.Reduce(n, c)
	inverse, e7 := circuit.Inverse(n, c)
	pair, e8 := circuit.Pair(n, c, g, g)
	firsts, e9 := circuit.Firsts(n, c)
	angle, e10 := circuit.Angle(n, c, g)
	other, e11 := circuit.Rename(n, c, to)
	return []outcome{
		{"Name", e1, len(name) == 0},
		{"Count", e2, count == 0},
		{"Layers", e3, len(layers) == 0},
		{"Depth", e4, depth == 0},
		{"IsShort", e5, !short},
		{"Reduce", e6, len(left) == 0},
		{"Inverse", e7, len(inverse) == 0},
		{"Pair", e8, len(pair) == 0},
		{"Firsts", e9, len(firsts) == 0},
		{"Angle", e10, angle == 0},
		{"Rename", e11, len(other) == 0},
	}
}

// callsOfTwo are the functions of two circuits.
func callsOfTwo(n int, c, d list) []outcome {
	alike, e1 := circuit.Alike(n, c, d)
	equal, e2 := circuit.Equal(n, c, d)
	joined, e3 := circuit.Join(n, c, d)
	return []outcome{{"Alike", e1, !alike}, {"Equal", e2, !equal}, {"Join", e3, len(joined) == 0}}
}

func wantAll(t *testing.T, all []outcome, want api.Errno) {
	t.Helper()
	for _, c := range all {
		if c.e != want || want != api.OK && !c.empty {
			t.Errorf("%s: error %v, want %v; other results are zero values: %v", c.name, c.e, want, c.empty)
		}
	}
}

// TestCircuitErrorsComeFirst is of P2.1 with R2 and R3.
func TestCircuitErrorsComeFirst(t *testing.T) {
	for _, c := range []struct {
		n    int
		c    list
		want api.Errno
	}{
		{0, tooMany, api.ErrArg},
		{5, tooMany, api.ErrArg},
		{0, nil, api.ErrArg},
		{5, nil, api.ErrArg},
		{math.MinInt, nil, api.ErrArg},
		{math.MaxInt, nil, api.ErrArg},
		{2, tooMany, api.ErrLarge},
		{2, tooManyX, api.ErrLarge},
		{2, badGate, api.ErrArg},
	} {
		wantAll(t, callsOfOne(c.n, c.c, false), c.want)
		wantAll(t, callsOfOne(c.n, c.c, true), c.want)
		wantAll(t, callsOfTwo(c.n, c.c, nil), c.want)
		wantAll(t, callsOfTwo(c.n, nil, c.c), c.want)
	}
	wantAll(t, callsOfOne(2, fullOfX, false), api.OK)
}

// TestErrorsOfTwoCircuits is of P2.1 with R2: all errors of the first circuit come before those of the second one, and these before that of too many gates.
func TestErrorsOfTwoCircuits(t *testing.T) {
	for _, c := range []struct {
		c, d list
		want api.Errno
	}{
		{badGate, tooMany, api.ErrArg},
		{tooMany, badGate, api.ErrLarge},
		{fullOfX, badGate, api.ErrArg},
		{fullOfX, tooManyX, api.ErrLarge},
		{nil, badGate, api.ErrArg},
		{nil, list{}, api.OK},
	} {
		wantAll(t, callsOfTwo(2, c.c, c.d), c.want)
	}
}

// TestErrorsOfSingleGates is of P2.1: each of the single gates is looked at, also if the circuit has none of its type.
func TestErrorsOfSingleGates(t *testing.T) {
	for n := 1; n <= api.MaxQubits; n++ {
		for _, g := range noGates(n) {
			for _, c := range []list{nil, {x(0, 1)}} {
				p, e := circuit.Pair(n, c, g, x(0, 1))
				q, f := circuit.Pair(n, c, x(0, 1), g)
				angle, h := circuit.Angle(n, c, g)
				wantAll(t, []outcome{{"Pair", e, len(p) == 0}, {"Pair", f, len(q) == 0}, {"Angle", h, angle == 0}}, api.ErrArg)
			}
		}
	}
	for _, g := range noGates(api.MaxQubits) {
		a, e := circuit.Commute(g, x(0, 1))
		b, f := circuit.Commute(x(1, 1), g)
		wantAll(t, []outcome{{"Commute", e, !a}, {"Commute", f, !b}}, api.ErrArg)
	}
}
