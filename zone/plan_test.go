package zone_test

import (
	"math"
	"math/rand"
	"slices"
	"testing"

	"quadrupole/api"
	"quadrupole/zone"
)

// TestNearFreeJunctions is of P3.2 and P3.4, by the words of the chapter.
func TestNearFreeJunctions(t *testing.T) {
	for _, s := range samples() {
		var free, junctions []int
		for z := range s.t.Zones {
			var near []int
			for other := range s.t.Zones {
				if hasLink(s.t, z, other) {
					near = append(near, other)
				}
			}
			if got, e := zone.Near(s.t, z); !slices.Equal(got, near) || e != api.OK {
				t.Fatalf("Near(%v, %d) = %v, %v", s.t, z, got, e)
			}
			if len(near) >= 3 {
				junctions = append(junctions, z)
			}
			if !slices.Contains(s.at, z) {
				free = append(free, z)
			}
		}
		if got, e := zone.Free(s.t, s.at); !slices.Equal(got, free) || e != api.OK {
			t.Fatalf("Free(%v) = %v, %v", s, got, e)
		}
		if got, e := zone.Junctions(s.t); !slices.Equal(got, junctions) || e != api.OK {
			t.Fatalf("Junctions(%v) = %v, %v", s.t, got, e)
		}
	}
}

// TestMoves is of P3.2.
func TestMoves(t *testing.T) {
	for _, s := range samples() {
		if got, e := zone.Moves(s.t, s.at); !slices.Equal(got, movesOf(s.t, s.at)) || e != api.OK {
			t.Fatalf("Moves(%v) = %v, %v", s, got, e)
		}
	}
	for _, c := range []struct {
		t    api.Trap
		at   []int
		want []api.Move
	}{
		{along(0, 1, 2), nil, nil},
		{along(0, 1, 2), []int{0, 1}, []api.Move{{Ion: 1, To: 2}}},
		{along(0, 1, 2), []int{1}, []api.Move{{Ion: 0, To: 0}, {Ion: 0, To: 2}}},
		{along(0, 1, 2), []int{2, 0, 1}, nil},
		{cross(), []int{3, 2, 0}, []api.Move{{Ion: 0, To: 1}, {Ion: 1, To: 1}, {Ion: 2, To: 1}}},
		{trap(4, [2]int{0, 3}, [2]int{0, 2}, [2]int{0, 1}), []int{0}, []api.Move{{Ion: 0, To: 1}, {Ion: 0, To: 2}, {Ion: 0, To: 3}}},
		{trap(1), []int{0}, nil},
	} {
		if got, e := zone.Moves(c.t, c.at); !slices.Equal(got, c.want) || e != api.OK {
			t.Errorf("Moves(%v, %v) = %v, %v", c.t, c.at, got, e)
		}
	}
}

// toAndFro moves the ion 0 between the zones 1 and 0.
func toAndFro(moves int) []api.Move {
	plan := make([]api.Move, moves)
	for i := range plan {
		plan[i].To = 1 - i%2
	}
	return plan
}

// TestCheckPlan is of P3.2: the place at the end, or the number of the first move with an error.
func TestCheckPlan(t *testing.T) {
	for i, c := range []struct {
		at   []int
		plan []api.Move
		to   []int
		n    int
		want api.Errno
	}{
		{nil, nil, nil, 0, api.OK},
		{[]int{2, 0}, nil, []int{2, 0}, 0, api.OK},
		{[]int{0, 3}, []api.Move{{Ion: 0, To: 1}, {Ion: 0, To: 2}, {Ion: 1, To: 1}, {Ion: 1, To: 0}}, []int{2, 0}, 4, api.OK},
		{[]int{0}, toAndFro(api.MaxMoves), []int{0}, api.MaxMoves, api.OK},
		{[]int{0}, toAndFro(api.MaxMoves - 1), []int{1}, api.MaxMoves - 1, api.OK},
		{[]int{0}, toAndFro(api.MaxMoves + 1), nil, 0, api.ErrLarge},
		{[]int{0}, slices.Repeat([]api.Move{{Ion: -1, To: -1}}, api.MaxMoves+1), nil, 0, api.ErrLarge},
		{nil, []api.Move{{}}, nil, 0, api.ErrNone},
		{[]int{0, 3}, []api.Move{{Ion: 2, To: 1}}, nil, 0, api.ErrNone},
		{[]int{0, 3}, []api.Move{{Ion: -1, To: 1}}, nil, 0, api.ErrNone},
		{[]int{0, 3}, []api.Move{{Ion: math.MinInt, To: 1}}, nil, 0, api.ErrNone},
		{[]int{0, 3}, []api.Move{{Ion: math.MaxInt, To: 3}}, nil, 0, api.ErrNone},
		{[]int{0, 3}, []api.Move{{Ion: 0, To: 1}, {Ion: 0, To: 4}}, nil, 1, api.ErrNone},
		{[]int{0, 3}, []api.Move{{Ion: 0, To: -1}}, nil, 0, api.ErrNone},
		{[]int{0, 3}, []api.Move{{Ion: 0, To: math.MinInt}}, nil, 0, api.ErrNone},
		{[]int{0, 3}, []api.Move{{Ion: 0, To: math.MaxInt}}, nil, 0, api.ErrNone},
		{[]int{0, 3}, []api.Move{{Ion: 0, To: 2}}, nil, 0, api.ErrRule},
		{[]int{0, 3}, []api.Move{{Ion: 0, To: 0}}, nil, 0, api.ErrRule},
		{[]int{0, 3}, []api.Move{{Ion: 0, To: 3}}, nil, 0, api.ErrRule},
		{[]int{0, 3}, []api.Move{{Ion: 0, To: 1}, {Ion: 1, To: 1}}, nil, 1, api.ErrTwice},
		{[]int{0, 3}, []api.Move{{Ion: 0, To: 1}, {Ion: 0, To: 0}, {Ion: 1, To: 1}, {Ion: 0, To: 1}, {Ion: 9, To: 9}}, nil, 3, api.ErrTwice},
		{[]int{0, 3}, []api.Move{{Ion: 0, To: 2}, {Ion: 9, To: 9}}, nil, 0, api.ErrRule},
		{[]int{0, 1}, []api.Move{{Ion: 0, To: 1}, {Ion: 0, To: 2}}, nil, 0, api.ErrTwice},
	} {
		to, n, e := zone.CheckPlan(cross(), c.at, c.plan)
		if !slices.Equal(to, c.to) || n != c.n || e != c.want {
			t.Errorf("%d: %v, %d, %v", i, to, n, e)
		}
		if back, e := zone.Back(cross(), c.at, c.plan); e != c.want || e != api.OK && len(back) != 0 || e == api.OK && len(back) != c.n {
			t.Errorf("%d: Back is %v, %v", i, back, e)
		}
	}
}

// TestCheckSingleMoves is of P3.2: a move has no error exactly if it is one of the Moves.
func TestCheckSingleMoves(t *testing.T) {
	for _, s := range samples() {
		moves := movesOf(s.t, s.at)
		for ion := -1; ion <= len(s.at); ion++ {
			for z := -1; z <= s.t.Zones; z++ {
				m := api.Move{Ion: ion, To: z}
				to, n, e := zone.CheckPlan(s.t, s.at, []api.Move{m})
				is := e == api.OK && n == 1 && to[ion] == z
				if is != slices.Contains(moves, m) || !is && (len(to) != 0 || n != 0 || e == api.OK) {
					t.Fatalf("CheckPlan(%v, %v) = %v, %d, %v", s, m, to, n, e)
				}
			}
		}
	}
}

// TestBack is of P3.2: the plan back leads through the same places, from the last one to the first one.
func TestBack(t *testing.T) {
	r := rand.New(rand.NewSource(5))
	for _, s := range samples() {
		places := [][]int{s.at}
		var plan []api.Move
		for moves := movesOf(s.t, s.at); len(moves) > 0 && len(plan) < 9; moves = movesOf(s.t, places[len(places)-1]) {
			m := moves[r.Intn(len(moves))]
			to := slices.Clone(places[len(places)-1])
			to[m.Ion] = m.To
			plan, places = append(plan, m), append(places, to)
		}
		end, n, e := zone.CheckPlan(s.t, s.at, plan)
		if !slices.Equal(end, places[len(plan)]) || n != len(plan) || e != api.OK {
			t.Fatalf("CheckPlan(%v, %v) = %v, %v, %v", s, plan, end, n, e)
		}
		back := must[[]api.Move](t)(zone.Back(s.t, s.at, plan))
		if len(back) != len(plan) {
			t.Fatalf("Back(%v, %v) = %v", s, plan, back)
		}
		for i := range back {
			to, _, e := zone.CheckPlan(s.t, end, back[:i+1])
			if !slices.Equal(to, places[len(plan)-1-i]) || back[i].Ion != plan[len(plan)-1-i].Ion || e != api.OK {
				t.Fatalf("Back(%v, %v) = %v", s, plan, back)
			}
		}
		if again := must[[]api.Move](t)(zone.Back(s.t, end, back)); !slices.Equal(again, plan) {
			t.Fatalf("Back(%v, %v) = %v, and Back of it %v", s, plan, back, again)
		}
	}
}
