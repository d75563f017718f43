package circuit_test

import (
	"math"
	"slices"
	"testing"

	"quadrupole/api"
	"quadrupole/circuit"
)

// made is the outcome of a call that makes a circuit.
type made struct {
	c list
	e api.Errno
}

func makes(c list, e api.Errno) made {
	return made{c, e}
}

// TestMakes is of P2.5: ordinary inputs, edge cases, and errors.
func TestMakes(t *testing.T) {
	c := list{x(0, 10), z(0, 2), x(0, 9), j(0, 1, 3)}
	mixed := list{x(0, 1), j(0, 1, 2), j(1, 2, 3), z(2, 4)}
	for i, k := range []struct {
		got  made
		want list
		e    api.Errno
	}{
		{makes(circuit.Inverse(2, c)), list{j(0, 1, 13), x(0, 7), z(0, 14), x(0, 6)}, api.OK},
		{makes(circuit.Inverse(1, list{x(0, 8), z(0, 1), x(0, 15)})), list{x(0, 1), z(0, 15), x(0, 8)}, api.OK},
		{makes(circuit.Inverse(1, nil)), nil, api.OK},
		{makes(circuit.Join(2, c, list{z(1, 1)})), append(slices.Clone(c), z(1, 1)), api.OK},
		{makes(circuit.Join(1, list{z(0, 1)}, list{x(0, 2), x(0, 14)})), list{z(0, 1), x(0, 2), x(0, 14)}, api.OK},
		{makes(circuit.Join(1, fullOfX[:4], fullOfX[4:])), fullOfX, api.OK},
		{makes(circuit.Join(1, fullOfX, nil)), fullOfX, api.OK},
		{makes(circuit.Join(1, nil, fullOfX)), fullOfX, api.OK},
		{makes(circuit.Join(1, nil, nil)), nil, api.OK},
		{makes(circuit.Join(1, fullOfX, list{x(0, 1)})), nil, api.ErrLarge},
		{makes(circuit.Join(1, list{x(0, 1)}, fullOfX)), nil, api.ErrLarge},
		{makes(circuit.Join(1, fullOfX, fullOfX)), nil, api.ErrLarge},
		{makes(circuit.Pair(2, c, x(0, 1), j(0, 1, 1))), list{x(0, 10), x(0, 9), j(0, 1, 3)}, api.OK},
		{makes(circuit.Pair(2, c, j(0, 1, 1), x(0, 1))), list{x(0, 10), x(0, 9), j(0, 1, 3)}, api.OK},
		{makes(circuit.Pair(2, c, x(0, 5), x(0, 6))), list{x(0, 10), x(0, 9)}, api.OK},
		{makes(circuit.Pair(2, c, z(1, 1), x(1, 1))), nil, api.OK},
		{makes(circuit.Pair(3, mixed, j(0, 2, 1), j(1, 2, 1))), list{j(1, 2, 3)}, api.OK},
		{makes(circuit.Pair(1, nil, z(0, 1), x(0, 1))), nil, api.OK},
		{makes(circuit.Pair(2, c, z(2, 1), x(0, 1))), nil, api.ErrArg},
		{makes(circuit.Pair(2, c, z(1, 1), j(0, 2, 1))), nil, api.ErrArg},
		{makes(circuit.Rename(3, mixed, []int{2, 0, 1})), list{x(2, 1), j(0, 2, 2), j(0, 1, 3), z(1, 4)}, api.OK},
		{makes(circuit.Rename(3, mixed, []int{0, 1, 2})), mixed, api.OK},
		{makes(circuit.Rename(3, mixed, []int{2, 1, 0})), list{x(2, 1), j(1, 2, 2), j(0, 1, 3), z(0, 4)}, api.OK},
		{makes(circuit.Rename(1, list{x(0, 1)}, []int{0})), list{x(0, 1)}, api.OK},
		{makes(circuit.Rename(4, nil, []int{3, 2, 1, 0})), nil, api.OK},
	} {
		if !slices.Equal(k.got.c, k.want) || k.got.e != k.e {
			t.Errorf("%d: %v, want %v, %v", i, k.got, k.want, k.e)
		}
	}
}

// TestRenameErrors is of P2.5: to must have each qubit once, and nothing else.
func TestRenameErrors(t *testing.T) {
	for _, to := range [][]int{nil, {}, {0}, {1}, {0, 0}, {1, 1}, {0, 2}, {2, 0}, {-1, 0}, {0, -1}, {0, 1, 1}, {0, 1, 2}, {2, 0, 1}, {0, 1, 0, 1}, {math.MinInt, math.MaxInt}} {
		for _, c := range []list{nil, {x(0, 1)}, {j(0, 1, 1)}} {
			if got, e := circuit.Rename(2, c, to); len(got) != 0 || e != api.ErrArg {
				t.Errorf("Rename(2, %v, %v) = %v, %v", c, to, got, e)
			}
		}
	}
}

// TestAngle is of P2.5.
func TestAngle(t *testing.T) {
	c := list{x(0, 10), z(0, 2), x(0, 9), j(0, 1, 3), j(1, 2, 8), j(0, 1, 15), j(1, 2, 8)}
	for _, k := range []struct {
		g    api.Gate
		want int
		e    api.Errno
	}{
		{x(0, 1), 3, api.OK},
		{z(0, 15), 2, api.OK},
		{x(1, 1), 0, api.OK},
		{j(0, 1, 1), 2, api.OK},
		{j(1, 2, 5), 0, api.OK},
		{j(0, 2, 5), 0, api.OK},
		{x(3, 1), 0, api.ErrArg},
		{x(0, 0), 0, api.ErrArg},
	} {
		if got, e := circuit.Angle(3, c, k.g); got != k.want || e != k.e {
			t.Errorf("Angle of %v: %v, %v, want %v, %v", k.g, got, e, k.want, k.e)
		}
	}
	if got, e := circuit.Angle(1, slices.Repeat(list{z(0, 15)}, api.MaxGates), z(0, 1)); got != 6 || e != api.OK {
		t.Error(got, e)
	}
}

// TestInverseCancels is the consequence of P2.5: what joins a circuit with its Inverse is empty.
func TestInverseCancels(t *testing.T) {
	for _, s := range samples() {
		c := s.c[:min(len(s.c), api.MaxGates/2)]
		inverse := must[list](t)(circuit.Inverse(s.n, c))
		for _, joined := range []made{makes(circuit.Join(s.n, c, inverse)), makes(circuit.Join(s.n, inverse, c))} {
			if left, e := circuit.Reduce(s.n, joined.c); len(left) != 0 || e != api.OK || joined.e != api.OK {
				t.Fatalf("Reduce of %v, joined with its Inverse: %v, %v, %v", c, left, e, joined.e)
			}
		}
		if back := must[list](t)(circuit.Inverse(s.n, inverse)); !slices.Equal(back, c) {
			t.Fatalf("Inverse of the Inverse of %v: %v", c, back)
		}
	}
}

// TestAngleOfEqual is the consequence of P2.5: equal circuits have the same Angle of each type.
func TestAngleOfEqual(t *testing.T) {
	for _, s := range samples() {
		left := must[list](t)(circuit.Reduce(s.n, s.c))
		for _, g := range typesOf(s.n) {
			angle := must[int](t)(circuit.Angle(s.n, s.c, g))
			if other := must[int](t)(circuit.Angle(s.n, left, g)); angle != other {
				t.Fatalf("Angle of %v in %v: %d, and in %v, which is equal: %d", g, s.c, angle, left, other)
			}
		}
	}
}

// TestRenameOfAlike is the consequence of P2.5, for all renamings.
func TestRenameOfAlike(t *testing.T) {
	for _, s := range samples() {
		name := must[list](t)(circuit.Name(s.n, s.c))
		for _, to := range permutations(s.n) {
			c := must[list](t)(circuit.Rename(s.n, s.c, to))
			d := must[list](t)(circuit.Rename(s.n, name, to))
			if !must[bool](t)(circuit.Alike(s.n, c, d)) {
				t.Fatalf("Rename of %v and of %v by %v: %v, %v", s.c, name, to, c, d)
			}
		}
	}
}

// circuitsMade are the results of all functions that make circuits, and the lists of Layers.
func circuitsMade(t *testing.T, c, d list, to []int) []list {
	t.Helper()
	all := []list{
		must[list](t)(circuit.Name(2, c)),
		must[list](t)(circuit.Reduce(2, c)),
		must[list](t)(circuit.Inverse(2, c)),
		must[list](t)(circuit.Join(2, c, d)),
		must[list](t)(circuit.Join(2, c, nil)),
		must[list](t)(circuit.Join(2, nil, c)),
		must[list](t)(circuit.Pair(2, c, x(0, 1), j(0, 1, 1))),
		must[list](t)(circuit.Rename(2, c, to)),
	}
	return append(all, must[[]list](t)(circuit.Layers(2, c))...)
}

// TestNewMemory is of P2.2 to P2.5 with R5: no argument is changed, and no result shares memory with one or with another result.
func TestNewMemory(t *testing.T) {
	c := list{z(1, 1), x(0, 2), j(0, 1, 3), x(0, 4), z(1, 5), x(1, 9)}[:4]
	d := list{z(1, 15), x(0, 14), z(1, 6)}[:2]
	to := []int{1, 0, 7}[:2]
	wantC, wantD, wantTo := slices.Clone(c[:6]), slices.Clone(d[:3]), slices.Clone(to[:3])
	circuit.Alike(2, c, d)
	circuit.Equal(2, c, d)
	circuit.IsShort(2, c)
	circuit.Count(2, c)
	circuit.Depth(2, c)
	circuit.Firsts(2, c)
	all := circuitsMade(t, c, d, to)
	again := circuitsMade(t, c, d, to)
	for i, m := range all {
		if len(m) == 0 {
			t.Fatalf("the result %d is empty", i)
		}
		if !slices.Equal(m, again[i]) {
			t.Errorf("the result %d is %v, and then %v", i, again[i], m)
		}
		for k := range m[:cap(m)] {
			m[:cap(m)][k] = x(0, 13)
		}
	}
	if !slices.Equal(c[:6], wantC) || !slices.Equal(d[:3], wantD) || !slices.Equal(to[:3], wantTo) {
		t.Errorf("the arguments are now %v, %v, %v", c[:6], d[:3], to[:3])
	}
}
