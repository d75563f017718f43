package circuit_test

import (
	"slices"
	"testing"

	"quadrupole/api"
	"quadrupole/circuit"
)

// oneStep are the circuits to which one exchange or one shortening leads.
func oneStep(c list) []list {
	return append(exchanged(c), shorter(c)...)
}

// isShort reports whether none of the circuits that are alike to c can be shortened.
func isShort(c list) bool {
	return !slices.ContainsFunc(alikeTo(c), func(d list) bool { return len(shorter(d)) > 0 })
}

// TestIsShort is of P2.4: all exchanges are tried.
func TestIsShort(t *testing.T) {
	for _, s := range samples() {
		if got, e := circuit.IsShort(s.n, s.c); got != isShort(s.c) || e != api.OK {
			t.Fatalf("IsShort(%d, %v) = %v, %v", s.n, s.c, got, e)
		}
	}
}

// TestReduce is of P2.4 and S2: whatever is shortened first, the same is left.
func TestReduce(t *testing.T) {
	for _, s := range samples() {
		left, e := circuit.Reduce(s.n, s.c)
		if e != api.OK {
			t.Fatalf("Reduce(%d, %v): %v", s.n, s.c, e)
		}
		all := reached(s.c, oneStep)
		if !isOneOf(left, all) || !isShort(left) || !slices.Equal(left, alikeTo(left)[0]) {
			t.Fatalf("Reduce(%d, %v) = %v", s.n, s.c, left)
		}
		ends := alikeTo(left)
		for _, d := range all {
			if len(d) <= len(left) && !isOneOf(d, ends) {
				t.Fatalf("Reduce(%d, %v) = %v, but %v may be left", s.n, s.c, left, d)
			}
		}
	}
}

// TestReduceOfSome is of P2.4, with the examples 2 and 3 of the chapter.
func TestReduceOfSome(t *testing.T) {
	for _, k := range []struct {
		c, want list
	}{
		{nil, nil},
		{list{x(0, 4), z(1, 2), x(0, 12)}, list{z(1, 2)}},
		{list{x(0, 8), z(0, 8), x(0, 8)}, list{x(0, 8), z(0, 8), x(0, 8)}},
		{list{z(1, 2), x(0, 2)}, list{x(0, 2), z(1, 2)}},
		{list{x(0, 15), x(0, 15)}, list{x(0, 14)}},
		{list{x(0, 1), x(0, 14)}, list{x(0, 15)}},
		{list{x(0, 1), x(0, 15)}, nil},
		{list{x(0, 9), x(0, 8)}, list{x(0, 1)}},
		{list{z(0, 1), x(0, 3), z(1, 5), x(0, 13), z(0, 2)}, list{z(0, 3), z(1, 5)}},
		{list{x(0, 1), z(0, 1), j(0, 1, 1), j(0, 1, 15), z(0, 15), x(0, 15)}, nil},
		{list{x(0, 1), j(0, 1, 1), x(1, 1), x(0, 1), j(0, 1, 1), x(1, 1)}, list{x(0, 2), x(1, 2), j(0, 1, 2)}},
		{fullOfX, list{x(0, 7)}},
		{slices.Repeat(list{x(0, 1), z(0, 1)}, 5), slices.Repeat(list{x(0, 1), z(0, 1)}, 5)},
		{slices.Repeat(list{z(1, 2), x(0, 2)}, 5), list{x(0, 10), z(1, 10)}},
	} {
		left, e := circuit.Reduce(2, k.c)
		short, f := circuit.IsShort(2, k.c)
		if !slices.Equal(left, k.want) || e != api.OK || short != (len(k.c) == len(k.want)) || f != api.OK {
			t.Errorf("%v: Reduce %v, %v, want %v; IsShort %v, %v", k.c, left, e, k.want, short, f)
		}
	}
}

// parts tells which circuits are equal: those that exchanges and shortenings join, in either direction.
type parts map[string]string

// find returns one circuit that stands for all those that are equal to the one with a key.
func (p parts) find(key string) string {
	for p[key] != key {
		key = p[key]
	}
	return key
}

func partsOf(circuits []list) parts {
	p := parts{}
	for _, c := range circuits {
		p[keyOf(c)] = keyOf(c)
	}
	for _, c := range circuits {
		for _, d := range oneStep(c) {
			p[p.find(keyOf(c))] = p.find(keyOf(d))
		}
	}
	return p
}

// TestEqualByReduce is the consequence of P2.4 and S2: all circuits of a few gates, of whose angles the sums are angles of them too. Each circuit is held against the others of its length of which it might be one.
func TestEqualByReduce(t *testing.T) {
	for _, k := range []struct {
		n, length int
		of        list
	}{
		{1, 5, gatesOf(1, 4, 8, 12)},
		{2, 4, gatesOf(2, 8)},
		{2, 3, gatesOf(2, 4, 8, 12)},
		{3, 3, gatesOf(3, 8)},
	} {
		var circuits []list
		for length := range k.length + 1 {
			circuits = append(circuits, everyCircuit(length, k.of)...)
		}
		p := partsOf(circuits)
		kept := map[string]string{}
		for i, c := range circuits {
			left := must[list](t)(circuit.Reduce(k.n, c))
			part := p.find(keyOf(c))
			if p.find(keyOf(left)) != part {
				t.Fatalf("Reduce(%d, %v) = %v is not equal to it", k.n, c, left)
			}
			if other, ok := kept[part]; ok && other != keyOf(left) {
				t.Fatalf("Reduce(%d, %v) = %v, but an equal circuit leaves %s", k.n, c, left, other)
			}
			kept[part] = keyOf(left)
			for _, d := range []list{left, circuits[i*7%len(circuits)], circuits[i*11%len(circuits)]} {
				want := p.find(keyOf(d)) == part
				if got, e := circuit.Equal(k.n, c, d); got != want || e != api.OK {
					t.Fatalf("Equal(%d, %v, %v) = %v, %v", k.n, c, d, got, e)
				}
			}
		}
	}
}

// TestEqualOfSome is of P2.4.
func TestEqualOfSome(t *testing.T) {
	for _, k := range []struct {
		c, d list
		want bool
	}{
		{nil, list{}, true},
		{list{x(0, 4), x(0, 4)}, list{x(0, 8)}, true},
		{list{x(0, 8)}, nil, false},
		{list{x(0, 8)}, list{x(0, 9)}, false},
		{list{x(0, 8)}, list{x(1, 8)}, false},
		{list{x(0, 8), x(0, 8)}, nil, true},
		{list{x(0, 8), x(0, 8)}, list{z(1, 3), z(1, 13)}, true},
		{list{x(0, 8), z(0, 8)}, list{z(0, 8), x(0, 8)}, false},
		{list{z(1, 3), x(0, 8)}, list{x(0, 6), z(1, 3), x(0, 2)}, true},
		{fullOfX, list{x(0, 7)}, true},
		{fullOfX, list{x(0, 4), x(0, 3)}, true},
		{slices.Repeat(list{x(0, 8), z(0, 8)}, 4), nil, false},
	} {
		got, e := circuit.Equal(2, k.c, k.d)
		back, f := circuit.Equal(2, k.d, k.c)
		if got != k.want || back != k.want || e != api.OK || f != api.OK {
			t.Errorf("Equal(2, %v, %v) = %v, %v; the other way round %v, %v", k.c, k.d, got, e, back, f)
		}
	}
}
