package machine_test

import (
	"fmt"
	"math/rand"
	"regexp"
	"slices"
	"strconv"
	"strings"
	"testing"

	"quadrupole/api"
	"quadrupole/circuit"
	"quadrupole/machine"
)

type gates = []api.Gate

// trap is a trap with links.
func trap(zones int, links ...[2]int) api.Trap {
	t := api.Trap{Zones: zones}
	for _, l := range links {
		t.Links = append(t.Links, api.Link{A: l[0], B: l[1]})
	}
	return t
}

// line3 is the trap of the chapter's examples.
func line3() api.Trap { return trap(3, [2]int{0, 1}, [2]int{1, 2}) }

// full is the trap in which each zone has a link with each other one.
func full(zones int) api.Trap {
	t := api.Trap{Zones: zones}
	for a := range zones {
		for b := a + 1; b < zones; b++ {
			t.Links = append(t.Links, api.Link{A: a, B: b})
		}
	}
	return t
}

// someTraps are traps of all kinds: without links, lines, rings, with junctions, with all links.
func someTraps() []api.Trap {
	return []api.Trap{
		trap(1), trap(5), trap(2, [2]int{0, 1}), line3(), full(3), full(6),
		trap(4, [2]int{1, 2}, [2]int{0, 1}, [2]int{2, 3}, [2]int{0, 3}),
		trap(4, [2]int{0, 1}, [2]int{1, 2}, [2]int{1, 3}),
		trap(6, [2]int{2, 3}, [2]int{0, 2}, [2]int{1, 2}, [2]int{3, 5}, [2]int{3, 4}),
	}
}

func x(q, angle int) api.Gate    { return api.Gate{Kind: 0, A: q, B: -1, Angle: angle} }
func z(q, angle int) api.Gate    { return api.Gate{Kind: 1, A: q, B: -1, Angle: angle} }
func j(a, b, angle int) api.Gate { return api.Gate{Kind: 2, A: a, B: b, Angle: angle} }

// model is a machine by the words of the chapter.
type model struct {
	t                      api.Trap
	limit                  int
	place, heats           []int
	gates                  gates
	moves, coolings, count int
	orders                 []string
}

const number = `(0|[1-9][0-9]?)`

// orderForms are the forms of orders by the words of the chapter.
var orderForms = regexp.MustCompile(`^((load|cool|wait) N|(move|turn|spin) N N|join N N N|drop)$`)

// numbered is the same with numbers in place of the letters N.
var numbered = regexp.MustCompile(strings.ReplaceAll(orderForms.String(), "N", number))

func (m *model) isIon(i int) bool  { return i < len(m.place) }
func (m *model) isZone(z int) bool { return z < m.t.Zones }

func (m *model) hasLink(a, b int) bool {
	return slices.Contains(m.t.Links, api.Link{A: a, B: b}) || slices.Contains(m.t.Links, api.Link{A: b, B: a})
}

func (m *model) grow(ion, by int) {
	m.heats[ion] = min(1000, m.heats[ion]+by)
}

// do is Do by the words of the chapter.
func (m *model) do(order string) api.Errno {
	if len(order) > 30 || !numbered.MatchString(order) {
		return api.ErrSyntax
	}
	if len(m.orders) == 100 {
		return api.ErrLarge
	}
	words := strings.Split(order, " ")
	var n []int
	for _, word := range words[1:] {
		k, _ := strconv.Atoi(word)
		n = append(n, k)
	}
	e := m.shuttle(words[0], n)
	if e == api.OK {
		m.orders = append(m.orders, order)
	}
	return e
}

// shuttle does an order of P9.1, or gives it to gate.
func (m *model) shuttle(word string, n []int) api.Errno {
	switch word {
	case "load":
		if !m.isZone(n[0]) {
			return api.ErrNone
		}
		if len(m.place) == 4 {
			return api.ErrLarge
		}
		if slices.Contains(m.place, n[0]) {
			return api.ErrTwice
		}
		m.place = append(m.place, n[0])
		m.heats = append(m.heats, 0)
	case "move":
		if !m.isIon(n[0]) || !m.isZone(n[1]) {
			return api.ErrNone
		}
		if !m.hasLink(m.place[n[0]], n[1]) {
			return api.ErrRule
		}
		if slices.Contains(m.place, n[1]) {
			return api.ErrTwice
		}
		m.place[n[0]] = n[1]
		m.grow(n[0], 3)
		m.moves++
	case "cool":
		if !m.isIon(n[0]) {
			return api.ErrNone
		}
		m.heats[n[0]] = 0
		m.coolings++
	case "wait":
		if n[0] == 0 {
			return api.ErrArg
		}
		for ion := range m.heats {
			m.grow(ion, n[0])
		}
	default:
		return m.gate(word, n)
	}
	return api.OK
}

// gate does an order of P9.2.
func (m *model) gate(word string, n []int) api.Errno {
	if word == "drop" {
		if len(m.gates) == 0 {
			return api.ErrState
		}
		m.gates = nil
		return api.OK
	}
	ions, angle, by := n[:len(n)-1], n[len(n)-1], 1
	for _, ion := range ions {
		if !m.isIon(ion) {
			return api.ErrNone
		}
	}
	if angle < 1 || angle > 15 || word == "join" && n[0] == n[1] {
		return api.ErrArg
	}
	if word == "join" && !m.hasLink(m.place[n[0]], m.place[n[1]]) {
		return api.ErrState
	}
	for _, ion := range ions {
		if m.heats[ion] > m.limit {
			return api.ErrRule
		}
	}
	if len(m.gates) == 10 {
		return api.ErrLarge
	}
	switch word {
	case "turn":
		m.gates = append(m.gates, x(n[0], angle))
	case "spin":
		m.gates = append(m.gates, z(n[0], angle))
	case "join":
		m.gates = append(m.gates, j(min(n[0], n[1]), max(n[0], n[1]), angle))
		by = 2
	}
	for _, ion := range ions {
		m.grow(ion, by)
	}
	m.count++
	return api.OK
}

// seen is all that is told of a machine, as a text.
type seen string

// look is what the methods of a machine tell.
func look(m *machine.Machine) seen {
	moves, coolings, count := m.Counts()
	return seen(fmt.Sprintf("%v %v %v %v %v %v %v %v %q %v", m.Place(), m.Heats(), m.Circuit(), m.Left(), moves, coolings, count, m.Warm(), m.Log(), m.Audit()))
}

// look is what the methods of a machine must tell.
func (m *model) look() seen {
	left, _ := circuit.Reduce(4, m.gates)
	var warm []int
	for ion, heat := range m.heats {
		if heat > m.limit {
			warm = append(warm, ion)
		}
	}
	return seen(fmt.Sprintf("%v %v %v %v %v %v %v %v %q %v", m.place, m.heats, m.gates, left, m.moves, m.coolings, m.count, warm, logOf(m.orders), true))
}

// sumOf is Sum by the words of the chapter.
func sumOf(before int, text string) int {
	const modulus = 1000003
	sum := (before%modulus + modulus) % modulus
	for _, b := range []byte(text) {
		sum = (sum*257 + int(b) + 1) % modulus
	}
	return sum
}

// logOf is the log of orders by the words of the chapter, also of those that cannot be in one.
func logOf(orders []string) string {
	log, sum := "", 0
	for _, order := range orders {
		sum = sumOf(sum, order)
		log += fmt.Sprintf("%d %s\n", sum, order)
	}
	return log
}

// randomOrder is an order for a machine, often one that it does.
func randomOrder(r *rand.Rand, m *model) string {
	ion := func() int { return r.Intn(len(m.place) + 1 - min(r.Intn(8), 1)*min(len(m.place), 1)) }
	zone := func() int { return r.Intn(m.t.Zones + 1 - min(r.Intn(8), 1)) }
	angle := func() int { return r.Intn(17) }
	switch r.Intn(20) {
	case 0, 1, 2:
		return fmt.Sprintf("load %d", zone())
	case 3, 4, 5, 6:
		return fmt.Sprintf("move %d %d", ion(), zone())
	case 7, 8, 9, 10:
		return fmt.Sprintf("cool %d", ion())
	case 11:
		return fmt.Sprintf("wait %d", []int{0, 1, 2, 50, 99}[r.Intn(5)])
	case 12, 13:
		return fmt.Sprintf("turn %d %d", ion(), angle())
	case 14, 15:
		return fmt.Sprintf("spin %d %d", ion(), angle())
	case 16, 17, 18:
		return fmt.Sprintf("join %d %d %d", ion(), ion(), angle())
	}
	return []string{"wait 00", "load", "turn 0", "cool  0", "drop ", "drop"}[min(r.Intn(10), 5)]
}

// randomLimit is a limit of a machine.
func randomLimit(r *rand.Rand) int {
	return []int{0, 1, 2, 5, 20, 99, 100}[r.Intn(7)]
}

// must returns the value of a call that gave no error.
func must[T any](t *testing.T) func(T, api.Errno) T {
	return func(value T, e api.Errno) T {
		t.Helper()
		if e != api.OK {
			t.Fatal(e)
		}
		return value
	}
}

// after is a machine that has done orders.
func after(t *testing.T, x api.Trap, limit int, orders ...string) *machine.Machine {
	t.Helper()
	m := must[*machine.Machine](t)(machine.New(x, limit))
	for _, order := range orders {
		if e := m.Do(order); e != api.OK {
			t.Fatalf("%q: %v", order, e)
		}
	}
	return m
}

// someLogs are the orders of logs that machines have kept, and others that no machine does.
func someLogs(t *testing.T) [][]string {
	all := [][]string{
		nil, {"a"}, {"a", "b"}, {"a", "c"}, {" "}, {"  a ", " ", "98 a"}, {"\x00", "\xff\xfe", "\r", "\t"}, {"0", "0", "0"},
		slices.Repeat([]string{"\x00"}, 100), slices.Repeat([]string{strings.Repeat("\xff", 30)}, 100), slices.Repeat([]string{"wait 1"}, 100),
	}
	r := rand.New(rand.NewSource(9))
	for _, x := range someTraps() {
		m := must[*machine.Machine](t)(machine.New(x, 20))
		is := &model{t: x, limit: 20}
		for range 60 {
			order := randomOrder(r, is)
			is.do(order)
			m.Do(order)
		}
		all = append(all, is.orders, is.orders[:len(is.orders)/2])
	}
	return all
}
