package circuit

import (
	"slices"

	"quadrupole/api"
)

// naming is a circuit with the place of the next gate of its name: the gates in front of it stand as they do in the name.
type naming struct {
	gates
	next int
}

// smallest returns the place of the smallest gate that exchanges bring to the next place.
func (name *naming) smallest() int {
	best := name.next
candidates:
	for i := name.next + 1; i < len(name.gates); i++ {
		if compare(name.gates[i], name.gates[best]) >= 0 {
			continue
		}
		for j := name.next; j < i; j++ {
			if name.tied(j, i) {
				continue candidates
			}
		}
		best = i
	}
	return best
}

// take puts the gate at a place in front of those that are left, which keep their order.
func (name *naming) take(place int) {
	g := name.gates[place]
	copy(name.gates[name.next+1:place+1], name.gates[name.next:place])
	name.gates[name.next] = g
	name.next++
}

// nameOf takes the smallest gate at each place: of two circuits that are alike, the first one has the smaller gate where they begin to differ.
func nameOf(c []api.Gate) []api.Gate {
	name := naming{gates: slices.Clone(c)}
	for name.next < len(name.gates) {
		name.take(name.smallest())
	}
	return name.gates
}

// Alike reports whether c and d are alike.
func Alike(n int, c, d []api.Gate) (bool, api.Errno) {
	if e := validateBoth(n, c, d); e != api.OK {
		return false, e
	}
	return slices.Equal(nameOf(c), nameOf(d)), api.OK
}

// Name returns the first circuit, in ascending order, of those that are alike.
func Name(n int, c []api.Gate) ([]api.Gate, api.Errno) {
	if e := Validate(n, c); e != api.OK {
		return nil, e
	}
	return nameOf(c), api.OK
}

// Count returns how many circuits are alike.
func Count(n int, c []api.Gate) (int, api.Errno) {
	if e := Validate(n, c); e != api.OK {
		return 0, e
	}
	return countOf(c), api.OK
}

// countOf counts the orders in which the gates may come: equal gates are tied, so that no two orders are the same circuit.
func countOf(c gates) int {
	before := c.before()
	orders := make([]int, 1<<len(c)) // for each set of gates: how many orders there are in which these come first
	orders[0] = 1
	for done := range orders {
		for i := range c {
			if done>>i&1 == 0 && before[i]&^done == 0 {
				orders[done|1<<i] += orders[done]
			}
		}
	}
	return orders[len(orders)-1]
}

// before returns for each gate the set, as bits, of the gates before it to which it is tied.
func (c gates) before() []int {
	before := make([]int, len(c))
	for i := range c {
		for j := range i {
			if c.tied(j, i) {
				before[i] |= 1 << j
			}
		}
	}
	return before
}

// levels returns for each gate the number of its layer: the gate is free as soon as the layers of all gates before it to which it is tied are left out.
func (c gates) levels() []int {
	levels := make([]int, len(c))
	for i := range c {
		for j := range i {
			if c.tied(j, i) {
				levels[i] = max(levels[i], levels[j]+1)
			}
		}
	}
	return levels
}

func layersOf(c gates) [][]api.Gate {
	var layers [][]api.Gate
	for i, level := range c.levels() {
		if level == len(layers) { // never above: a gate of the layer before has come already
			layers = append(layers, nil)
		}
		layers[level] = append(layers[level], c[i])
	}
	for _, layer := range layers {
		slices.SortFunc(layer, compare)
	}
	return layers
}

// Layers returns lists of gates: in each one, those that are free when the gates of the earlier lists are left out.
func Layers(n int, c []api.Gate) ([][]api.Gate, api.Errno) {
	if e := Validate(n, c); e != api.OK {
		return nil, e
	}
	return layersOf(c), api.OK
}

// Depth returns the number of the layers of c.
func Depth(n int, c []api.Gate) (int, api.Errno) {
	if e := Validate(n, c); e != api.OK {
		return 0, e
	}
	return len(layersOf(c)), api.OK
}

// Firsts returns the set of the numbers of the gates of the first layer.
func Firsts(n int, c []api.Gate) ([]int, api.Errno) {
	if e := Validate(n, c); e != api.OK {
		return nil, e
	}
	var firsts []int
	for i, level := range gates(c).levels() {
		if level == 0 {
			firsts = append(firsts, i)
		}
	}
	return firsts, api.OK
}
