package pulse_test

import (
	"slices"
	"testing"

	"quadrupole/api"
	"quadrupole/pulse"
)

// somePulses are the pulses of at most 4 segments with forces from -2 to 2, and some long ones.
func somePulses() [][]int {
	all := [][]int{
		{api.MaxForce, -api.MaxForce, api.MaxForce, -api.MaxForce, 0, 7, -30, 99, 98, 97, 96, 95},
		{1, 1, 1, 1, 1, 1, 1, 1, 1, 1, 1, 1},
		{5, 0, 5, 0, 0, -3, 0, -3},
		longest,
	}
	for length := range 5 {
		all = append(all, everyPulse(length, 2)...)
	}
	return all
}

// everyPulse lists the pulses of a length with forces from -force to force.
func everyPulse(length, force int) [][]int {
	if length == 0 {
		return [][]int{nil}
	}
	var all [][]int
	for _, p := range everyPulse(length-1, force) {
		for last := -force; last <= force; last++ {
			all = append(all, append(slices.Clone(p), last))
		}
	}
	return all
}

// stepOf is the step of the segment j, told by tables of the cosine and the sine.
func stepOf(p []int, mode, j int) api.Point {
	cos, sin := [4]int{1, 0, -1, 0}, [4]int{0, 1, 0, -1}
	turned := mode * j % 4
	return api.Point{X: p[j] * cos[turned], Y: p[j] * sin[turned]}
}

func crossOf(a, b api.Point) int {
	return a.X*b.Y - a.Y*b.X
}

// areaBySteps is the area as the consequence of P1.2 tells it.
func areaBySteps(p []int, mode int) int {
	total := 0
	for j := range p {
		for i := range j {
			total += crossOf(stepOf(p, mode, i), stepOf(p, mode, j))
		}
	}
	return total
}

func pathBySteps(p []int, mode int) []api.Point {
	path := make([]api.Point, len(p)+1)
	for j := range p {
		step := stepOf(p, mode, j)
		path[j+1] = api.Point{X: path[j].X + step.X, Y: path[j].Y + step.Y}
	}
	return path
}

func mustArea(t *testing.T, p []int, mode int) int {
	t.Helper()
	area, e := pulse.Area(p, mode)
	if e != api.OK {
		t.Fatalf("Area(%v, %d): %v", p, mode, e)
	}
	return area
}

func mustEnd(t *testing.T, p []int, mode int) api.Point {
	t.Helper()
	end, e := pulse.End(p, mode)
	if e != api.OK {
		t.Fatalf("End(%v, %d): %v", p, mode, e)
	}
	return end
}

func mustClosed(t *testing.T, p []int) []int {
	t.Helper()
	modes, e := pulse.Closed(p)
	if e != api.OK {
		t.Fatalf("Closed(%v): %v", p, e)
	}
	return modes
}

// TestSquare is of P1.2: the examples 1 and 2 of the chapter.
func TestSquare(t *testing.T) {
	square := []int{1, 1, 1, 1}
	path, e := pulse.Path(square, 1)
	if want := []api.Point{{X: 0, Y: 0}, {X: 1, Y: 0}, {X: 1, Y: 1}, {X: 0, Y: 1}, {X: 0, Y: 0}}; !slices.Equal(path, want) || e != api.OK {
		t.Error(path, e)
	}
	if sum, e := pulse.Sum(square, 1); sum != (api.Point{X: 2, Y: 2}) || e != api.OK {
		t.Error(sum, e)
	}
	if mustArea(t, square, 1) != 2 || mustArea(t, square, 3) != -2 {
		t.Error(mustArea(t, square, 1), mustArea(t, square, 3))
	}
	if modes := mustClosed(t, square); !slices.Equal(modes, []int{1, 2, 3}) {
		t.Error(modes)
	}
}

// TestPaths is of P1.2.
func TestPaths(t *testing.T) {
	for _, p := range somePulses() {
		for mode := range 4 {
			want := pathBySteps(p, mode)
			path, e := pulse.Path(p, mode)
			if !slices.Equal(path, want) || e != api.OK {
				t.Fatalf("Path(%v, %d) = %v, %v, want %v", p, mode, path, e, want)
			}
			if end := mustEnd(t, p, mode); end != want[len(p)] {
				t.Fatalf("End(%v, %d) = %v, want %v", p, mode, end, want[len(p)])
			}
			if sum, e := pulse.Sum(p, mode); sum != total(want) || e != api.OK {
				t.Fatalf("Sum(%v, %d) = %v, %v, want %v", p, mode, sum, e, total(want))
			}
		}
	}
}

func total(path []api.Point) api.Point {
	sum := api.Point{}
	for _, x := range path {
		sum.X += x.X
		sum.Y += x.Y
	}
	return sum
}

// TestAreas is of P1.2: the area by its meaning, and the consequence.
func TestAreas(t *testing.T) {
	for _, p := range somePulses() {
		for mode := range 4 {
			path := pathBySteps(p, mode)
			want := 0
			for i := range p {
				want += crossOf(path[i], path[i+1])
			}
			if area := mustArea(t, p, mode); area != want || area != areaBySteps(p, mode) {
				t.Fatalf("Area(%v, %d) = %d, want %d", p, mode, area, want)
			}
		}
		if mustArea(t, p, 0) != 0 || mustArea(t, p, 2) != 0 || mustArea(t, p, 3) != -mustArea(t, p, 1) {
			t.Fatalf("areas of %v: %d %d %d %d", p, mustArea(t, p, 0), mustArea(t, p, 1), mustArea(t, p, 2), mustArea(t, p, 3))
		}
	}
}

// TestClosedAndCalm is of P1.2.
func TestClosedAndCalm(t *testing.T) {
	more := [][]int{{1, 0, -1, 0, -1, 0, 1}, {1, -1, -1, 1}, {1, 0, 0, 0, -2, 0, 0, 0, 1}, {1, 1, 0, 0, -1, -1, 0, 0, 0, 0, 0, 0}}
	for _, p := range append(more, somePulses()...) {
		var closed, calm []int
		for mode := range 4 {
			path := pathBySteps(p, mode)
			if path[len(p)] != (api.Point{}) {
				continue
			}
			closed = append(closed, mode)
			if total(path) == (api.Point{}) {
				calm = append(calm, mode)
			}
		}
		if modes := mustClosed(t, p); !slices.Equal(modes, closed) {
			t.Fatalf("Closed(%v) = %v, want %v", p, modes, closed)
		}
		if modes, e := pulse.Calm(p); !slices.Equal(modes, calm) || e != api.OK {
			t.Fatalf("Calm(%v) = %v, %v, want %v", p, modes, e, calm)
		}
	}
}

// TestCalm is of P1.2: a sum of (0, 0) alone is not calm, nor is a closed pulse alone.
func TestCalm(t *testing.T) {
	for _, c := range []struct {
		p, want []int
	}{
		{nil, []int{0, 1, 2, 3}},
		{[]int{0, 0}, []int{0, 1, 2, 3}},
		{[]int{1, -2, 1}, []int{0}},
		{[]int{1, 2, 1}, []int{2}},
		{[]int{1, 0, 2, 0, 1}, []int{1, 3}},
		{[]int{1, 0, 0, 0, -2, 0, 0, 0, 1}, []int{0, 1, 2, 3}},
		{[]int{1, -2}, nil},
		{[]int{1, -1}, nil},
	} {
		if modes, e := pulse.Calm(c.p); !slices.Equal(modes, c.want) || e != api.OK {
			t.Errorf("Calm(%v) = %v, %v, want %v", c.p, modes, e, c.want)
		}
	}
}

// TestTurn is of P1.2.
func TestTurn(t *testing.T) {
	for _, x := range []api.Point{{}, {X: 3, Y: 1}, {X: -2, Y: 5}, {X: 1000000, Y: -1000000}} {
		want := x
		for quarters := range 9 {
			for _, more := range []int{0, -4, 4, 1 << 62, -1 << 62, -1 << 63} {
				if got := pulse.Turn(x, quarters+more); got != want {
					t.Errorf("Turn(%v, %d) = %v, want %v", x, quarters+more, got, want)
				}
			}
			want = api.Point{X: -want.Y, Y: want.X}
		}
	}
	for quarters, want := range map[int]api.Point{-1: {X: 1, Y: -3}, -2: {X: -3, Y: -1}, -3: {X: -1, Y: 3}, -4: {X: 3, Y: 1}, 1<<63 - 1: {X: 1, Y: -3}} {
		if got := pulse.Turn(api.Point{X: 3, Y: 1}, quarters); got != want {
			t.Errorf("Turn by %d: %v, want %v", quarters, got, want)
		}
	}
}
