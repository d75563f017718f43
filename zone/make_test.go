package zone_test

import (
	"math"
	"slices"
	"testing"

	"quadrupole/api"
	"quadrupole/zone"
)

func isSame(t, u api.Trap) bool {
	return t.Zones == u.Zones && slices.Equal(t.Links, u.Links)
}

// TestWithout is of P3.5: the links that stay keep their order.
func TestWithout(t *testing.T) {
	x := trap(4, [2]int{2, 3}, [2]int{0, 3}, [2]int{1, 2})
	for k, want := range []api.Trap{
		trap(4, [2]int{0, 3}, [2]int{1, 2}),
		trap(4, [2]int{2, 3}, [2]int{1, 2}),
		trap(4, [2]int{2, 3}, [2]int{0, 3}),
	} {
		if got, e := zone.Without(x, k); !isSame(got, want) || e != api.OK {
			t.Errorf("Without %d: %v, %v, want %v", k, got, e, want)
		}
	}
	if got, e := zone.Without(along(0, 1), 0); !isSame(got, trap(2)) || e != api.OK {
		t.Errorf("Without the only link: %v, %v", got, e)
	}
}

// TestWithoutReachesNoMore is the consequence of P3.5.
func TestWithoutReachesNoMore(t *testing.T) {
	for _, s := range samples() {
		reach := must[int](t)(zone.Reach(s.t, s.at))
		for k := range s.t.Links {
			less := must[api.Trap](t)(zone.Without(s.t, k))
			if got := must[int](t)(zone.Reach(less, s.at)); got > reach {
				t.Fatalf("Reach of %v is %d, and without the link %d it is %d", s, reach, k, got)
			}
		}
	}
}

// TestRename is of P3.5: the smaller zone of a link first, and the links in ascending order.
func TestRename(t *testing.T) {
	x := trap(4, [2]int{2, 3}, [2]int{0, 3}, [2]int{1, 2})
	for _, c := range []struct {
		t    api.Trap
		to   []int
		want api.Trap
	}{
		{x, []int{0, 1, 2, 3}, trap(4, [2]int{0, 3}, [2]int{1, 2}, [2]int{2, 3})},
		{x, []int{3, 2, 1, 0}, trap(4, [2]int{0, 1}, [2]int{0, 3}, [2]int{1, 2})},
		{x, []int{1, 2, 3, 0}, trap(4, [2]int{0, 1}, [2]int{0, 3}, [2]int{2, 3})},
		{full(5), []int{4, 2, 0, 1, 3}, full(5)},
		{along(0, 1, 2, 3), []int{2, 0, 3, 1}, trap(4, [2]int{0, 2}, [2]int{0, 3}, [2]int{1, 3})},
		{trap(1), []int{0}, trap(1)},
		{trap(6), []int{5, 0, 4, 1, 3, 2}, trap(6)},
	} {
		if got, e := zone.Rename(c.t, c.to); !isSame(got, c.want) || e != api.OK {
			t.Errorf("Rename(%v, %v) = %v, %v, want %v", c.t, c.to, got, e, c.want)
		}
	}
}

// TestRenameErrors is of P3.1: to must have each zone once, and nothing else.
func TestRenameErrors(t *testing.T) {
	for _, to := range [][]int{nil, {}, {0}, {1}, {0, 0}, {1, 1}, {0, 2}, {2, 0}, {-1, 0}, {0, -1}, {0, 1, 1}, {0, 1, 2}, {2, 0, 1}, {0, 1, 0, 1}, {math.MinInt, math.MaxInt}} {
		for _, x := range []api.Trap{trap(2), along(0, 1)} {
			if got, e := zone.Rename(x, to); !isNoTrap(got) || e != api.ErrArg {
				t.Errorf("Rename(%v, %v) = %v, %v", x, to, got, e)
			}
		}
	}
}

// renamed gives the ions of a place the new numbers of their zones.
func renamed(at, to []int) []int {
	other := make([]int, len(at))
	for i, z := range at {
		other[i] = to[z]
	}
	return other
}

// TestRenameKeepsFar is the consequence of P3.5.
func TestRenameKeepsFar(t *testing.T) {
	for i, s := range samples() {
		if i%7 != 0 {
			continue
		}
		names := everyPlace(s.t.Zones, s.t.Zones)
		name := names[i%len(names)]
		x := must[api.Trap](t)(zone.Rename(s.t, name))
		for _, to := range everyPlace(s.t.Zones, len(s.at)) {
			a, b := finds(zone.Far(s.t, s.at, to)), finds(zone.Far(x, renamed(s.at, name), renamed(to, name)))
			if a != b {
				t.Fatalf("Far(%v, %v) = %v, and renamed by %v it is %v", s, to, a, name, b)
			}
		}
	}
}

// TestNewMemory is of R5: no argument is changed, and no result shares memory with one.
func TestNewMemory(t *testing.T) {
	x := trap(4, [2]int{0, 1}, [2]int{1, 2}, [2]int{2, 3}, [2]int{0, 3})
	at, to, plan := []int{0, 1, 9, 9}[:2], []int{2, 3, 9, 9}[:2], []api.Move{{Ion: 1, To: 2}, {Ion: 0, To: 1}}
	name := []int{0, 1, 2, 3}
	end, _, _ := zone.CheckPlan(x, at, nil)
	end[0] = 77
	moved, _, _ := zone.CheckPlan(x, at, plan)
	moved[0] = 77
	back, _ := zone.Back(x, at, plan)
	back[0].Ion = 77
	zone.Plan(x, at, to)
	zone.CanSwap(x, at, 0, 1)
	zone.Sequence(x, at)
	for k := range x.Links {
		less, _ := zone.Without(x, k)
		for i := range less.Links {
			less.Links[i].A = 77
		}
		less.Links = append(less.Links, api.Link{A: 77})
	}
	other, _ := zone.Rename(x, name)
	other.Links[0].A = 77
	zone.Rename(trap(4, [2]int{2, 3}, [2]int{0, 1}), name)
	if !isSame(x, trap(4, [2]int{0, 1}, [2]int{1, 2}, [2]int{2, 3}, [2]int{0, 3})) {
		t.Error(x)
	}
	if !slices.Equal(at[:4], []int{0, 1, 9, 9}) || !slices.Equal(to[:4], []int{2, 3, 9, 9}) || !slices.Equal(name, []int{0, 1, 2, 3}) {
		t.Error(at[:4], to[:4], name)
	}
	if !slices.Equal(plan, []api.Move{{Ion: 1, To: 2}, {Ion: 0, To: 1}}) {
		t.Error(plan)
	}
}
