package clock_test

import (
	"math"
	"math/rand"
	"slices"
	"testing"

	"quadrupole/api"
	"quadrupole/clock"
)

// TestBacklog is of P5.5: ordinary inputs, edge cases, and errors.
func TestBacklog(t *testing.T) {
	most := slices.Repeat([]int{api.MaxTime}, api.MaxTime)
	var sums []int
	for unit := range api.MaxTime {
		sums = append(sums, api.MaxTime*(unit+1))
	}
	for i, c := range []struct {
		come []int
		done int
		want []int
		e    api.Errno
	}{
		{[]int{3, 0, 2}, 2, []int{1, 0, 0}, api.OK},
		{[]int{3, 0, 2}, 0, []int{3, 3, 5}, api.OK},
		{[]int{3, 0, 2}, 1, []int{2, 1, 2}, api.OK},
		{[]int{0, 0, 5, 5, 0, 0, 1}, 3, []int{0, 0, 2, 4, 1, 0, 0}, api.OK},
		{nil, 0, nil, api.OK},
		{nil, api.MaxTime, nil, api.OK},
		{[]int{0}, 0, []int{0}, api.OK},
		{[]int{60}, 60, []int{0}, api.OK},
		{[]int{60, 60}, 59, []int{1, 2}, api.OK},
		{most, 0, sums, api.OK},
		{most, 60, make([]int, 60), api.OK},
		{make([]int, 61), 0, nil, api.ErrArg},
		{[]int{1, 61}, 1, nil, api.ErrArg},
		{[]int{1, -1, 1}, 1, nil, api.ErrArg},
		{[]int{math.MaxInt}, 1, nil, api.ErrArg},
		{[]int{5, math.MinInt}, 1, nil, api.ErrArg},
		{[]int{1}, -1, nil, api.ErrArg},
		{[]int{1}, 61, nil, api.ErrArg},
		{nil, -1, nil, api.ErrArg},
		{nil, 61, nil, api.ErrArg},
		{nil, math.MinInt, nil, api.ErrArg},
		{nil, math.MaxInt, nil, api.ErrArg},
	} {
		if got, e := clock.Backlog(c.come, c.done); !slices.Equal(got, c.want) || e != c.e {
			t.Errorf("%d: %v, %v, want %v, %v", i, got, e, c.want, c.e)
		}
	}
}

// TestBacklogIsGreatest is the consequence of P5.5.
func TestBacklogIsGreatest(t *testing.T) {
	r := rand.New(rand.NewSource(3))
	for range 1000 {
		come, most := make([]int, r.Intn(api.MaxTime+1)), 1+r.Intn(api.MaxTime)
		for unit := range come {
			come[unit] = r.Intn(most + 1)
		}
		done := r.Intn(most + 1)
		got := must[[]int](t)(clock.Backlog(come, done))
		if len(got) != len(come) {
			t.Fatalf("Backlog(%v, %d) = %v", come, done, got)
		}
		for unit := range come {
			sum, greatest := 0, 0
			for from := unit; from >= 0; from-- {
				sum += come[from] - done
				greatest = max(greatest, sum)
			}
			if got[unit] != greatest {
				t.Fatalf("Backlog(%v, %d)[%d] = %d, want %d", come, done, unit, got[unit], greatest)
			}
		}
	}
}

// made is the outcome of a call that makes jobs.
type made struct {
	l jobs
	e api.Errno
}

func makes(l jobs, e api.Errno) made {
	return made{l, e}
}

// TestMakes is of P5.6: ordinary inputs, edge cases, and errors.
func TestMakes(t *testing.T) {
	all := jobs{job(0, 60, 5)}
	for i, c := range []struct {
		got  made
		want jobs
		e    api.Errno
	}{
		{makes(clock.Turn(two())), jobs{job(58, 60, 1), job(57, 60, 2)}, api.OK},
		{makes(clock.Turn(three())), jobs{job(58, 60, 1), job(57, 60, 2), job(58, 59, 1)}, api.OK},
		{makes(clock.Turn(all)), all, api.OK},
		{makes(clock.Turn(jobs{job(59, 60, 60)})), jobs{job(0, 1, 60)}, api.OK},
		{makes(clock.Turn(nil)), nil, api.OK},
		{makes(clock.Shift(three(), 2)), jobs{job(2, 4, 1), job(2, 5, 2), job(3, 4, 1)}, api.OK},
		{makes(clock.Shift(three(), 0)), three(), api.OK},
		{makes(clock.Shift(two(), 57)), jobs{job(57, 59, 1), job(57, 60, 2)}, api.OK},
		{makes(clock.Shift(two(), 58)), nil, api.ErrArg},
		{makes(clock.Shift(two(), -1)), nil, api.ErrArg},
		{makes(clock.Shift(jobs{job(7, 9, 2), job(5, 6, 1)}, -5)), jobs{job(2, 4, 2), job(0, 1, 1)}, api.OK},
		{makes(clock.Shift(jobs{job(7, 9, 2), job(5, 6, 1)}, -6)), nil, api.ErrArg},
		{makes(clock.Shift(all, 1)), nil, api.ErrArg},
		{makes(clock.Shift(nil, math.MinInt)), nil, api.OK},
		{makes(clock.Shift(nil, math.MaxInt)), nil, api.OK},
		{makes(clock.Relax(three(), 2)), jobs{job(0, 4, 1), job(0, 5, 2), job(1, 4, 1)}, api.OK},
		{makes(clock.Relax(three(), 0)), three(), api.OK},
		{makes(clock.Relax(three(), 57)), jobs{job(0, 59, 1), job(0, 60, 2), job(1, 59, 1)}, api.OK},
		{makes(clock.Relax(three(), 58)), nil, api.ErrArg},
		{makes(clock.Relax(two(), -1)), jobs{job(0, 1, 1), job(0, 2, 2)}, api.OK},
		{makes(clock.Relax(two(), -2)), nil, api.ErrArg},
		{makes(clock.Relax(three(), -1)), nil, api.ErrArg},
		{makes(clock.Relax(nil, math.MinInt)), nil, api.OK},
		{makes(clock.Relax(nil, math.MaxInt)), nil, api.OK},
		{makes(clock.Without(three(), 0)), jobs{job(0, 3, 2), job(1, 2, 1)}, api.OK},
		{makes(clock.Without(three(), 1)), jobs{job(0, 2, 1), job(1, 2, 1)}, api.OK},
		{makes(clock.Without(three(), 2)), two(), api.OK},
		{makes(clock.Without(all, 0)), nil, api.OK},
		{makes(clock.Without(three(), 3)), nil, api.ErrNone},
		{makes(clock.Without(three(), -1)), nil, api.ErrNone},
		{makes(clock.Without(three(), math.MinInt)), nil, api.ErrNone},
		{makes(clock.Without(three(), math.MaxInt)), nil, api.ErrNone},
		{makes(clock.Without(nil, 0)), nil, api.ErrNone},
	} {
		if !slices.Equal(c.got.l, c.want) || c.got.e != c.e {
			t.Errorf("%d: %v, want %v, %v", i, c.got, c.want, c.e)
		}
	}
}

// TestSumsAreExact is of P5.6 with R8: a number that is too great for the integers of the language is an error as well.
func TestSumsAreExact(t *testing.T) {
	for from := range api.MaxTime {
		for _, by := range []int{from + 1, (from+1+api.MaxTime)/2 + 1, api.MaxTime} {
			if by > api.MaxTime {
				continue
			}
			l := jobs{job(from, by, 1)}
			for far := range 130 {
				for _, x := range []int{math.MaxInt - far, math.MinInt + far, math.MaxInt/2 - far, math.MinInt/2 + far} {
					if got, e := clock.Shift(l, x); len(got) != 0 || e != api.ErrArg {
						t.Fatalf("Shift(%v, %d) = %v, %v", l, x, got, e)
					}
					if got, e := clock.Relax(l, x); len(got) != 0 || e != api.ErrArg {
						t.Fatalf("Relax(%v, %d) = %v, %v", l, x, got, e)
					}
				}
			}
		}
	}
}

// TestTurnAndShift is the consequence of P5.6: they change neither CanKeep nor Slack nor Speed.
func TestTurnAndShift(t *testing.T) {
	shifted := 0
	for _, l := range fewSamples() {
		keep, want := must[bool](t)(clock.CanKeep(l)), theSpare(t, l)
		others := []jobs{must[jobs](t)(clock.Turn(l))}
		if again := must[jobs](t)(clock.Turn(others[0])); !slices.Equal(again, l) {
			t.Fatalf("Turn of Turn of %v: %v", l, again)
		}
		for _, by := range []int{-56, -1, 2, 19, 56} {
			if other, e := clock.Shift(l, by); e == api.OK {
				others = append(others, other)
				shifted++
			}
		}
		for _, other := range others {
			got := theSpare(t, other)
			if must[bool](t)(clock.CanKeep(other)) != keep || got.slack != want.slack || got.speed != want.speed {
				t.Fatalf("of %v: %v, %v; of %v: %v", l, keep, want, other, got)
			}
		}
	}
	if shifted < 500 {
		t.Error(shifted)
	}
}

// TestLateOfOthers is the consequence of P5.6: Relax by a number makes Late smaller by it, and Without makes it not greater, if some job is left.
func TestLateOfOthers(t *testing.T) {
	relaxed := 0
	for _, l := range samples() {
		late := must[int](t)(clock.Late(l))
		for _, by := range []int{-3, -1, 0, 1, 2, 17, 56} {
			other, e := clock.Relax(l, by)
			if e != api.OK || len(l) == 0 {
				continue
			}
			relaxed++
			if got := must[int](t)(clock.Late(other)); got != late-by {
				t.Fatalf("Late(%v) is %d, and of Relax by %d %d", l, late, by, got)
			}
		}
		for k := range l {
			other := must[jobs](t)(clock.Without(l, k))
			if got := must[int](t)(clock.Late(other)); len(other) > 0 && got > late {
				t.Fatalf("Late(%v) is %d, and without the job %d %d", l, late, k, got)
			}
		}
	}
	if relaxed < 1000 {
		t.Error(relaxed)
	}
}

// jobsMade are the results of all functions that make jobs.
func jobsMade(t *testing.T, l jobs) []jobs {
	t.Helper()
	return []jobs{
		must[jobs](t)(clock.Turn(l)),
		must[jobs](t)(clock.Shift(l, 0)),
		must[jobs](t)(clock.Shift(l, 5)),
		must[jobs](t)(clock.Relax(l, 0)),
		must[jobs](t)(clock.Relax(l, 5)),
		must[jobs](t)(clock.Without(l, 0)),
		must[jobs](t)(clock.Without(l, len(l)-1)),
	}
}

// listsMade are the results of all functions that make numbers.
func listsMade(t *testing.T, l jobs, come []int) [][]int {
	t.Helper()
	return [][]int{
		mustBe[[]int](t)(clock.Table(l)).value,
		must[[]int](t)(clock.Urgent(l)),
		must[[]int](t)(clock.Ends(l)),
		must[[]int](t)(clock.Backlog(come, 0)),
		must[[]int](t)(clock.Backlog(come, 2)),
	}
}

// TestNewMemory is of P5.2 to P5.6 with R5 and R11: no argument is changed, no result shares memory with one or with another result, and equal calls return equal results.
func TestNewMemory(t *testing.T) {
	l := append(two(), job(4, 9, 3), job(7, 7, 7))[:3]
	come, table := []int{3, 0, 2, 77}[:3], []int{0, 1, 1, -1, 2, 2, 2, 77}[:7]
	wantL, wantCome, wantTable := slices.Clone(l[:4]), slices.Clone(come[:4]), slices.Clone(table[:8])
	clock.Shift(l, -1)
	clock.Relax(l, 99)
	clock.Backlog(come, 9)
	if e := clock.CheckTable(l, table); e != api.OK {
		t.Error(e)
	}
	theSpare(t, l)
	made, madeAgain := jobsMade(t, l), jobsMade(t, l)
	lists, listsAgain := listsMade(t, l, come), listsMade(t, l, come)
	for i, m := range made {
		if len(m) == 0 || !slices.Equal(m, madeAgain[i]) {
			t.Errorf("the jobs %d are %v, and then %v", i, m, madeAgain[i])
		}
		for k := range m[:cap(m)] {
			m[:cap(m)][k] = job(77, 77, 77)
		}
	}
	for i, m := range lists {
		if len(m) == 0 || !slices.Equal(m, listsAgain[i]) {
			t.Errorf("the list %d is %v, and then %v", i, m, listsAgain[i])
		}
		for k := range m[:cap(m)] {
			m[:cap(m)][k] = 77
		}
	}
	for i, m := range jobsMade(t, l) {
		if !slices.Equal(m, madeAgain[i]) {
			t.Errorf("the jobs %d are %v, and later %v", i, madeAgain[i], m)
		}
	}
	for i, m := range listsMade(t, l, come) {
		if !slices.Equal(m, listsAgain[i]) {
			t.Errorf("the list %d is %v, and later %v", i, listsAgain[i], m)
		}
	}
	if !slices.Equal(l[:4], wantL) || !slices.Equal(come[:4], wantCome) || !slices.Equal(table[:8], wantTable) {
		t.Errorf("the arguments are now %v, %v, %v", l[:4], come[:4], table[:8])
	}
}
