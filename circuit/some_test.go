package circuit_test

import (
	"math/rand"
	"slices"
	"strconv"
	"strings"
	"testing"

	"quadrupole/api"
)

// list is a circuit.
type list = []api.Gate

func x(q, angle int) api.Gate    { return api.Gate{Kind: 0, A: q, B: -1, Angle: angle} }
func z(q, angle int) api.Gate    { return api.Gate{Kind: 1, A: q, B: -1, Angle: angle} }
func j(a, b, angle int) api.Gate { return api.Gate{Kind: 2, A: a, B: b, Angle: angle} }

// typesOf are the types of the gates of n qubits, each with the angle 1.
func typesOf(n int) list {
	var all list
	for a := range n {
		all = append(all, x(a, 1), z(a, 1))
		for b := a + 1; b < n; b++ {
			all = append(all, j(a, b, 1))
		}
	}
	return all
}

// gatesOf are the gates of n qubits with some angles.
func gatesOf(n int, angles ...int) list {
	var all list
	for _, g := range typesOf(n) {
		for _, angle := range angles {
			g.Angle = angle
			all = append(all, g)
		}
	}
	return all
}

// everyCircuit lists the circuits of a length that are made of some gates.
func everyCircuit(length int, of list) []list {
	if length == 0 {
		return []list{nil}
	}
	var all []list
	for _, c := range everyCircuit(length-1, of) {
		for _, g := range of {
			all = append(all, append(slices.Clone(c), g))
		}
	}
	return all
}

// sample is a circuit with its number of qubits.
type sample struct {
	n int
	c list
}

// samples are all short circuits of few gates, and longer ones of each number of qubits, the same ones each time.
func samples() []sample {
	var all []sample
	for length := range 5 {
		for _, c := range everyCircuit(length, gatesOf(1, 8, 9)) {
			all = append(all, sample{1, c})
		}
	}
	for length := range 4 {
		for _, c := range everyCircuit(length, gatesOf(2, 8, 3)) {
			all = append(all, sample{2, c})
		}
	}
	r := rand.New(rand.NewSource(7))
	for n := 1; n <= api.MaxQubits; n++ {
		of := gatesOf(n, 1, 8, 15)
		for range 200 {
			c := make(list, 4+r.Intn(3))
			for i := range c {
				c[i] = of[r.Intn(len(of))]
			}
			all = append(all, sample{n, c})
		}
	}
	return all
}

// qubitsOf tells the qubits of a gate as the chapter does.
func qubitsOf(g api.Gate) []int {
	if g.Kind == 2 {
		return []int{g.A, g.B}
	}
	return []int{g.A}
}

func isSameType(g, h api.Gate) bool {
	return g.Kind == h.Kind && g.A == h.A && g.B == h.B
}

// doCommute tells by the words of the chapter whether two types commute.
func doCommute(g, h api.Gate) bool {
	common := slices.ContainsFunc(qubitsOf(g), func(q int) bool { return slices.Contains(qubitsOf(h), q) })
	both := func(kinds ...int) bool { return slices.Contains(kinds, g.Kind) && slices.Contains(kinds, h.Kind) }
	return !common || both(0, 2) || both(1)
}

func doExchange(g, h api.Gate) bool {
	return doCommute(g, h) && !isSameType(g, h)
}

// inOrder compares two circuits in ascending order.
func inOrder(c, d list) int {
	return slices.CompareFunc(c, d, func(g, h api.Gate) int {
		return slices.Compare([]int{g.Kind, g.A, g.B, g.Angle}, []int{h.Kind, h.A, h.B, h.Angle})
	})
}

// keyOf tells circuits apart.
func keyOf(c list) string {
	var b strings.Builder
	for _, g := range c {
		for _, number := range []int{g.Kind, g.A, g.B, g.Angle} {
			b.WriteString(strconv.Itoa(number) + " ")
		}
	}
	return b.String()
}

// exchanged are the circuits to which one exchange leads from c.
func exchanged(c list) []list {
	var all []list
	for i := range len(c) - 1 {
		if doExchange(c[i], c[i+1]) {
			d := slices.Clone(c)
			d[i], d[i+1] = d[i+1], d[i]
			all = append(all, d)
		}
	}
	return all
}

// shorter are the circuits that are made by shortening c once.
func shorter(c list) []list {
	var all []list
	for i := range len(c) - 1 {
		if !isSameType(c[i], c[i+1]) {
			continue
		}
		g := c[i]
		g.Angle = (g.Angle + c[i+1].Angle) % 16
		if g.Angle == 0 {
			all = append(all, slices.Concat(c[:i], c[i+2:]))
		} else {
			all = append(all, slices.Concat(c[:i], list{g}, c[i+2:]))
		}
	}
	return all
}

// reached are all circuits to which some steps lead from c, in ascending order.
func reached(c list, steps func(list) []list) []list {
	seen := map[string]bool{keyOf(c): true}
	all := []list{c}
	for i := 0; i < len(all); i++ {
		for _, d := range steps(all[i]) {
			if !seen[keyOf(d)] {
				seen[keyOf(d)] = true
				all = append(all, d)
			}
		}
	}
	slices.SortFunc(all, inOrder)
	return all
}

// alikeTo are the circuits that are alike to c, in ascending order.
func alikeTo(c list) []list {
	return reached(c, exchanged)
}

func isOneOf(c list, all []list) bool {
	_, ok := slices.BinarySearchFunc(all, c, inOrder)
	return ok
}

// must returns the value of a call that gave no error.
func must[T any](t *testing.T) func(T, api.Errno) T {
	return func(value T, e api.Errno) T {
		t.Helper()
		if e != api.OK {
			t.Fatal(e)
		}
		return value
	}
}

// permutations are the lists that have each number from 0 to n - 1 once.
func permutations(n int) [][]int {
	if n == 0 {
		return [][]int{nil}
	}
	var all [][]int
	for _, p := range permutations(n - 1) {
		for i := range n {
			all = append(all, slices.Insert(slices.Clone(p), i, n-1))
		}
	}
	return all
}
