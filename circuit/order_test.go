package circuit_test

import (
	"slices"
	"testing"

	"quadrupole/api"
	"quadrupole/circuit"
)

// TestCommute is of P2.2: all pairs of types, with equal and with different angles.
func TestCommute(t *testing.T) {
	all := gatesOf(api.MaxQubits, 1, 15)
	for _, g := range all {
		for _, h := range all {
			if got, e := circuit.Commute(g, h); got != doCommute(g, h) || e != api.OK {
				t.Errorf("Commute(%v, %v) = %v, %v", g, h, got, e)
			}
		}
	}
}

// TestCommuteOfKinds is of P2.2, with the example 1 of the chapter.
func TestCommuteOfKinds(t *testing.T) {
	for _, c := range []struct {
		g, h api.Gate
		want bool
	}{
		{x(0, 1), j(0, 1, 2), true},
		{x(1, 1), j(0, 1, 2), true},
		{z(0, 1), x(0, 1), false},
		{z(0, 1), x(1, 1), true},
		{z(2, 1), j(0, 2, 1), false},
		{z(0, 1), j(0, 2, 1), false},
		{z(1, 1), j(0, 2, 1), true},
		{z(3, 1), z(3, 2), true},
		{j(0, 1, 1), j(1, 2, 1), true},
		{j(0, 1, 1), j(2, 3, 1), true},
	} {
		got, e := circuit.Commute(c.g, c.h)
		back, f := circuit.Commute(c.h, c.g)
		if got != c.want || back != c.want || e != api.OK || f != api.OK {
			t.Errorf("Commute(%v, %v) = %v, %v; the other way round %v, %v", c.g, c.h, got, e, back, f)
		}
	}
}

// TestNameAndCount is of P2.2: all exchanges are tried.
func TestNameAndCount(t *testing.T) {
	for _, s := range samples() {
		all := alikeTo(s.c)
		if name, e := circuit.Name(s.n, s.c); !slices.Equal(name, all[0]) || e != api.OK {
			t.Fatalf("Name(%d, %v) = %v, %v, want %v", s.n, s.c, name, e, all[0])
		}
		count, e := circuit.Count(s.n, s.c)
		if count != len(all) || e != api.OK {
			t.Fatalf("Count(%d, %v) = %v, %v, want %v", s.n, s.c, count, e, len(all))
		}
		if (count == 1) != (len(exchanged(s.c)) == 0) {
			t.Fatalf("Count(%d, %v) = %v, and the exchanges are %v", s.n, s.c, count, exchanged(s.c))
		}
	}
}

// TestLongCircuits is of P2.2 and P2.3: circuits with as many gates as there may be.
func TestLongCircuits(t *testing.T) {
	free := list{j(2, 3, 1), j(1, 3, 2), j(1, 2, 3), j(0, 3, 4), j(0, 2, 5), j(0, 1, 6), x(3, 7), x(2, 8), x(1, 9), x(0, 10)}
	sorted := list{x(0, 10), x(1, 9), x(2, 8), x(3, 7), j(0, 1, 6), j(0, 2, 5), j(0, 3, 4), j(1, 2, 3), j(1, 3, 2), j(2, 3, 1)}
	two := list{x(0, 5), x(0, 4), x(0, 3), x(0, 2), x(0, 1), z(1, 5), z(1, 4), z(1, 3), z(1, 2), z(1, 1)}
	for _, c := range []struct {
		c, name      list
		count, depth int
		firsts       []int
	}{
		{free, sorted, 3628800, 1, []int{0, 1, 2, 3, 4, 5, 6, 7, 8, 9}},
		{two, two, 252, 5, []int{0, 5}},
		{fullOfX, fullOfX, 1, 10, []int{0}},
	} {
		name := must[list](t)(circuit.Name(4, c.c))
		count := must[int](t)(circuit.Count(4, c.c))
		depth := must[int](t)(circuit.Depth(4, c.c))
		firsts := must[[]int](t)(circuit.Firsts(4, c.c))
		if !slices.Equal(name, c.name) || count != c.count || depth != c.depth || !slices.Equal(firsts, c.firsts) {
			t.Errorf("%v: Name %v, Count %d, Depth %d, Firsts %v", c.c, name, count, depth, firsts)
		}
	}
}

// TestNoGates is of P2.2 and P2.3: a circuit without gates.
func TestNoGates(t *testing.T) {
	name := must[list](t)(circuit.Name(1, nil))
	count := must[int](t)(circuit.Count(1, nil))
	layers := must[[]list](t)(circuit.Layers(1, nil))
	depth := must[int](t)(circuit.Depth(1, nil))
	firsts := must[[]int](t)(circuit.Firsts(1, nil))
	same := must[bool](t)(circuit.Alike(1, nil, list{}))
	if len(name) != 0 || count != 1 || len(layers) != 0 || depth != 0 || len(firsts) != 0 || !same {
		t.Error(name, count, layers, depth, firsts, same)
	}
}

// TestAlikeOfAllPairs is of P2.2: all circuits of some gates, each with each one.
func TestAlikeOfAllPairs(t *testing.T) {
	for _, of := range []list{{x(0, 8), x(0, 9), z(0, 8)}, {x(0, 1), z(1, 1), j(0, 1, 1)}, {z(0, 1), x(1, 2), z(1, 3)}} {
		var circuits []list
		for length := range 5 {
			circuits = append(circuits, everyCircuit(length, of)...)
		}
		for _, c := range circuits {
			all := alikeTo(c)
			for _, d := range circuits {
				if got, e := circuit.Alike(2, c, d); got != isOneOf(d, all) || e != api.OK {
					t.Fatalf("Alike(2, %v, %v) = %v, %v", c, d, got, e)
				}
			}
		}
	}
}

// pairsAgree is the consequence of P2.2: for two types that are the same or do not commute, the gates of both are the same, in the same order.
func pairsAgree(t *testing.T, n int, c, d list) bool {
	t.Helper()
	for _, g := range typesOf(n) {
		for _, h := range typesOf(n) {
			if doExchange(g, h) {
				continue
			}
			if !slices.Equal(must[list](t)(circuit.Pair(n, c, g, h)), must[list](t)(circuit.Pair(n, d, g, h))) {
				return false
			}
		}
	}
	return true
}

// TestAlikeByPairs is the consequence of P2.2 and S2, for circuits in all orders of their gates.
func TestAlikeByPairs(t *testing.T) {
	for _, c := range []list{
		{x(0, 1), z(0, 2), x(0, 3), j(0, 1, 4)},
		{x(0, 1), z(1, 2), j(0, 2, 3), z(0, 4)},
		{z(2, 8), j(1, 2, 8), j(0, 2, 8), z(2, 8)},
		{x(0, 1), x(1, 1), z(0, 1), z(1, 1)},
	} {
		for _, p := range permutations(len(c)) {
			d := make(list, len(c))
			for i, at := range p {
				d[i] = c[at]
			}
			if got, e := circuit.Alike(3, c, d); got != pairsAgree(t, 3, c, d) || e != api.OK {
				t.Errorf("Alike(3, %v, %v) = %v, %v", c, d, got, e)
			}
		}
	}
}

// isFree reports whether the gate i commutes with all gates before it but those that are left out; one of the same type does not count as one that does.
func isFree(c list, i int, out []bool) bool {
	for k := range i {
		if !out[k] && !doExchange(c[k], c[i]) {
			return false
		}
	}
	return true
}

// listsOf are the layers of a circuit, made one after another by the words of P2.3, as numbers of gates.
func listsOf(c list) [][]int {
	var lists [][]int
	out := make([]bool, len(c))
	for slices.Contains(out, false) {
		var free []int
		for i := range c {
			if !out[i] && isFree(c, i, out) {
				free = append(free, i)
			}
		}
		for _, i := range free {
			out[i] = true
		}
		lists = append(lists, free)
	}
	return lists
}

// TestLayers is of P2.3, with Depth and Firsts.
func TestLayers(t *testing.T) {
	for _, s := range samples() {
		lists := listsOf(s.c)
		var firsts []int
		var want []list
		for i, numbers := range lists {
			if i == 0 {
				firsts = numbers
			}
			layer := make(list, len(numbers))
			for k, number := range numbers {
				layer[k] = s.c[number]
			}
			slices.SortFunc(layer, func(g, h api.Gate) int { return inOrder(list{g}, list{h}) })
			want = append(want, layer)
		}
		if got, e := circuit.Layers(s.n, s.c); !slices.EqualFunc(got, want, slices.Equal[list]) || e != api.OK {
			t.Fatalf("Layers(%d, %v) = %v, %v, want %v", s.n, s.c, got, e, want)
		}
		if got, e := circuit.Depth(s.n, s.c); got != len(want) || e != api.OK {
			t.Fatalf("Depth(%d, %v) = %v, %v, want %v", s.n, s.c, got, e, len(want))
		}
		if got, e := circuit.Firsts(s.n, s.c); !slices.Equal(got, firsts) || e != api.OK {
			t.Fatalf("Firsts(%d, %v) = %v, %v, want %v", s.n, s.c, got, e, firsts)
		}
	}
}

// TestLayersOfAlike is the consequence of P2.3.
func TestLayersOfAlike(t *testing.T) {
	for _, s := range samples() {
		layers := must[[]list](t)(circuit.Layers(s.n, s.c))
		all := alikeTo(s.c)
		for _, d := range all[:min(len(all), 6)] {
			if other := must[[]list](t)(circuit.Layers(s.n, d)); !slices.EqualFunc(layers, other, slices.Equal[list]) {
				t.Fatalf("Layers of %v: %v, and of %v: %v", s.c, layers, d, other)
			}
		}
		if joined := slices.Concat(layers...); !isOneOf(joined, all) {
			t.Fatalf("Layers of %v: %v are not alike to it", s.c, layers)
		}
		for _, layer := range layers {
			for i, g := range layer {
				for _, h := range layer[:i] {
					if !doExchange(g, h) {
						t.Fatalf("Layers of %v: %v has %v and %v in one list", s.c, layers, g, h)
					}
				}
			}
		}
	}
}

// TestExampleOfDepth is of P2.2 to P2.4: the example 3 of the chapter.
func TestExampleOfDepth(t *testing.T) {
	c := list{x(0, 8), z(0, 8), x(0, 8)}
	short := must[bool](t)(circuit.IsShort(1, c))
	count := must[int](t)(circuit.Count(1, c))
	depth := must[int](t)(circuit.Depth(1, c))
	if !short || count != 1 || depth != 3 {
		t.Error(short, count, depth)
	}
}
