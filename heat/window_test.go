package heat_test

import (
	"math"
	"slices"
	"testing"

	"quadrupole/api"
	"quadrupole/heat"
)

// TestWindowsAreMost is of P4.4: no other windows of which no two meet are more.
func TestWindowsAreMost(t *testing.T) {
	for _, s := range shortSamples() {
		for limit := range 5 {
			want := mostApart(everyWindow(s.n, s.plan, limit))
			if got := must[[]api.Window](t)(heat.Windows(s.n, s.plan, limit)); len(got) != want {
				t.Fatalf("Windows(%v, %d) = %v, and %d are possible", s, limit, got, want)
			}
		}
	}
}

// TestCheckOneWindow is of P4.4, by the words of the chapter: all that could be windows.
func TestCheckOneWindow(t *testing.T) {
	for i, s := range samples() {
		if i%3 != 0 {
			continue
		}
		for _, limit := range []int{0, 1, 2, 4, 30} {
			for ion := range s.n {
				for k := range len(s.plan) * len(s.plan) {
					w := api.Window{Ion: ion, From: k / len(s.plan), To: k % len(s.plan)}
					want, e := 0, api.ErrProof
					if isWindow(s.plan, limit, w) {
						want, e = 1, api.OK
					}
					if got, f := heat.CheckWindows(s.n, s.plan, limit, []api.Window{w}); got != want || f != e {
						t.Fatalf("CheckWindows(%v, %d, %v) = %d, %v, want %v", s, limit, w, got, f, e)
					}
				}
			}
		}
	}
}

// TestCheckPairsOfWindows is of P4.4, by the words of the chapter.
func TestCheckPairsOfWindows(t *testing.T) {
	for i, s := range samples() {
		if i%7 != 0 {
			continue
		}
		all := everyWindow(s.n, s.plan, 1)
		for _, v := range all {
			for _, w := range all {
				want, e := 2, api.OK
				if doMeet(v, w) {
					want, e = 0, api.ErrRule
				}
				if got, f := heat.CheckWindows(s.n, s.plan, 1, []api.Window{v, w}); got != want || f != e {
					t.Fatalf("CheckWindows(%v, %v, %v) = %d, %v, want %v", s, v, w, got, f, e)
				}
			}
		}
	}
}

// TestCheckWindowsOfSome is of P4.4: "one by one", and ErrRule behind all of them.
func TestCheckWindowsOfSome(t *testing.T) {
	window := func(ion, from, to int) api.Window { return api.Window{Ion: ion, From: from, To: to} }
	plan := wide()
	whole, later, over, first, none := window(0, 0, 5), window(0, 5, 6), window(0, 2, 6), window(0, 0, 2), window(0, 0, 7)
	for i, c := range []struct {
		limit int
		l     []api.Window
		want  int
		e     api.Errno
	}{
		{3, nil, 0, api.OK},
		{3, []api.Window{whole}, 1, api.OK},
		{3, []api.Window{whole, later}, 2, api.OK},
		{3, []api.Window{later, whole}, 2, api.OK},
		{2, []api.Window{later, first}, 2, api.OK},
		{3, []api.Window{whole, over}, 0, api.ErrRule},
		{3, []api.Window{over, later, whole}, 0, api.ErrRule},
		{3, []api.Window{whole, later, whole}, 0, api.ErrRule},
		{3, []api.Window{whole, whole, first}, 0, api.ErrProof},
		{3, []api.Window{whole, whole, none}, 0, api.ErrArg},
		{3, []api.Window{first, none}, 0, api.ErrProof},
		{3, []api.Window{none, first}, 0, api.ErrArg},
		{3, []api.Window{whole, none, first}, 0, api.ErrArg},
		{3, []api.Window{window(1, 1, 4)}, 0, api.ErrProof},
		{0, []api.Window{window(1, 3, 4)}, 0, api.ErrProof},
		{0, []api.Window{window(1, 0, 5)}, 0, api.ErrProof},
		{0, []api.Window{window(0, 1, 5)}, 0, api.ErrProof},
		{0, []api.Window{window(0, 0, 4)}, 0, api.ErrProof},
		{0, []api.Window{window(0, 0, 0)}, 0, api.ErrProof},
		{0, []api.Window{window(0, 2, 2)}, 0, api.ErrProof},
		{0, []api.Window{window(0, 5, 2)}, 0, api.ErrProof},
		{3, slices.Repeat([]api.Window{whole}, api.MaxActs), 0, api.ErrRule},
		{3, slices.Repeat([]api.Window{whole}, api.MaxActs+1), 0, api.ErrLarge},
		{3, slices.Repeat([]api.Window{none}, api.MaxActs+1), 0, api.ErrLarge},
		{-1, slices.Repeat([]api.Window{none}, api.MaxActs+1), 0, api.ErrArg},
		{101, slices.Repeat([]api.Window{none}, api.MaxActs+1), 0, api.ErrArg},
	} {
		if got, e := heat.CheckWindows(2, plan, c.limit, c.l); got != c.want || e != c.e {
			t.Errorf("%d: %d, %v, want %d, %v", i, got, e, c.want, c.e)
		}
	}
}

// TestCheckManyWindows is of P4.4: side by side, each gate is the end of one window and the beginning of the next one.
func TestCheckManyWindows(t *testing.T) {
	plan := slices.Repeat(acts{gate(0, 1)}, api.MaxActs)
	var l []api.Window
	for i := range api.MaxActs - 1 {
		l = append(l, api.Window{Ion: 0, From: i, To: i + 1})
	}
	slices.Reverse(l)
	if got, e := heat.CheckWindows(1, plan, 0, l); got != api.MaxActs-1 || e != api.OK {
		t.Error(got, e)
	}
	if got, e := heat.CheckWindows(1, plan, 0, append(l, l[0])); got != 0 || e != api.ErrRule {
		t.Error(got, e)
	}
}

// TestNoWindows is of P4.4: there is no such ion or act.
func TestNoWindows(t *testing.T) {
	for _, s := range []sample{{2, wide()}, {4, wide()}, {1, nil}, {3, acts{move(0, 5), gate(0, 1)}}} {
		for _, ion := range []int{-1, s.n, math.MinInt, math.MaxInt} {
			wantNoWindow(t, s, api.Window{Ion: ion, From: 0, To: 1})
		}
		for _, number := range []int{-1, len(s.plan), math.MinInt, math.MaxInt} {
			wantNoWindow(t, s, api.Window{Ion: 0, From: 0, To: number})
			wantNoWindow(t, s, api.Window{Ion: 0, From: number, To: 1})
			wantNoWindow(t, s, api.Window{Ion: 0, From: number, To: number})
		}
	}
}

func wantNoWindow(t *testing.T, s sample, w api.Window) {
	t.Helper()
	if got, e := heat.CheckWindows(s.n, s.plan, 0, []api.Window{w}); got != 0 || e != api.ErrArg {
		t.Errorf("CheckWindows(%v, %v) = %d, %v", s, w, got, e)
	}
}
