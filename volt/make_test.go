package volt_test

import (
	"slices"
	"testing"

	"quadrupole/api"
	"quadrupole/volt"
)

// pairs are voltages of equally many electrodes: all of one or of two electrodes, and some of three.
func pairs() [][2][]int {
	var all [][2][]int
	for wires := 1; wires <= api.MaxWires; wires++ {
		list := everyList(wires, api.MaxVolt)
		for i, a := range list {
			for k := i % 9 * (wires / 3); k < len(list); k += 1 + wires/3*8 {
				all = append(all, [2][]int{a, list[k]})
			}
		}
	}
	return all
}

// rampOf is Ramp by the words of the chapter: each electrode goes unit by unit.
func rampOf(a, b []int, slew int) lists {
	ramp := lists{a}
	for !slices.Equal(ramp[len(ramp)-1], b) {
		next := slices.Clone(ramp[len(ramp)-1])
		for wire := range next {
			for range slew {
				if next[wire] < b[wire] {
					next[wire]++
				} else if next[wire] > b[wire] {
					next[wire]--
				}
			}
		}
		ramp = append(ramp, next)
	}
	return ramp
}

// fewestSteps is the smallest number of jumps of any ramp: how often all voltages near those that are reached must be added until b is reached.
func fewestSteps(a, b []int, slew int) int {
	steps := 0
	for reached := (lists{a}); !slices.ContainsFunc(reached, func(volts []int) bool { return slices.Equal(volts, b) }); steps++ {
		reached = slices.DeleteFunc(everyList(len(a), api.MaxVolt), func(volts []int) bool {
			return !slices.ContainsFunc(reached, func(from []int) bool { return apart(from, volts) <= slew })
		})
	}
	return steps
}

// TestStepsAndRamp is of P7.5, with the consequence that Steps is the Jump, divided by slew, rounded up.
func TestStepsAndRamp(t *testing.T) {
	for i, p := range pairs() {
		a, b := p[0], p[1]
		jump := must[int](t)(volt.Jump(a, b))
		for slew := 1; slew <= 2*api.MaxVolt; slew++ {
			steps, ramp := must[int](t)(volt.Steps(a, b, slew)), must[lists](t)(volt.Ramp(a, b, slew))
			if want := rampOf(a, b, slew); !equal(ramp, want) || steps != len(want)-1 {
				t.Fatalf("Ramp(%v, %v, %d) = %v, with %d Steps, want %v", a, b, slew, ramp, steps, want)
			}
			if steps*slew < jump || (steps-1)*slew >= jump {
				t.Fatalf("Steps(%v, %v, %d) = %d, and the Jump is %d", a, b, slew, steps, jump)
			}
			if i%50 == 0 || len(a) == 1 {
				if fewest := fewestSteps(a, b, slew); fewest != steps {
					t.Fatalf("Steps(%v, %v, %d) = %d, want %d", a, b, slew, steps, fewest)
				}
			}
		}
	}
}

// TestRampOfSome is of P7.5: few ramps, and edges.
func TestRampOfSome(t *testing.T) {
	for i, c := range []struct {
		a, b []int
		slew int
		want lists
	}{
		{[]int{0, 0}, []int{3, -1}, 2, lists{{0, 0}, {2, -1}, {3, -1}}},
		{[]int{0, 0}, []int{0, 0}, 1, lists{{0, 0}}},
		{[]int{3, -3, 1}, []int{3, -3, 1}, 6, lists{{3, -3, 1}}},
		{[]int{-3}, []int{3}, 6, lists{{-3}, {3}}},
		{[]int{-3}, []int{3}, 5, lists{{-3}, {2}, {3}}},
		{[]int{3}, []int{-3}, 4, lists{{3}, {-1}, {-3}}},
		{[]int{3}, []int{-3}, 1, lists{{3}, {2}, {1}, {0}, {-1}, {-2}, {-3}}},
		{[]int{-3, 3, 0}, []int{3, 2, 0}, 3, lists{{-3, 3, 0}, {0, 2, 0}, {3, 2, 0}}},
		{[]int{0, 1}, []int{1, 0}, 6, lists{{0, 1}, {1, 0}}},
	} {
		if got := must[lists](t)(volt.Ramp(c.a, c.b, c.slew)); !equal(got, c.want) {
			t.Errorf("%d: Ramp is %v, want %v", i, got, c.want)
		}
		if got := must[int](t)(volt.Steps(c.a, c.b, c.slew)); got != len(c.want)-1 {
			t.Errorf("%d: Steps is %d, want %d", i, got, len(c.want)-1)
		}
	}
}

// TestWithout is of P7.5.
func TestWithout(t *testing.T) {
	for i, c := range []struct {
		gains lists
		wire  int
		want  lists
	}{
		{one(), 0, lists{{1}}},
		{one(), 1, lists{{2}}},
		{two(), 0, lists{{-9, 0}, {2, 3}}},
		{two(), 1, lists{{9, 0}, {1, 3}}},
		{two(), 2, lists{{9, -9}, {1, 2}}},
		{lists{{1, 2}, {3, 4}, {5, 6}}, 0, lists{{2}, {4}, {6}}},
		{lists{{1, 2}, {3, 4}, {5, 6}}, 1, lists{{1}, {3}, {5}}},
	} {
		if got := must[lists](t)(volt.Without(c.gains, c.wire)); !equal(got, c.want) {
			t.Errorf("%d: Without is %v, want %v", i, got, c.want)
		}
	}
	for _, gains := range greatGains() {
		for wire := range gains[0] {
			if len(gains[0]) == 1 {
				continue
			}
			left := must[lists](t)(volt.Without(gains, wire))
			for _, volts := range allVolts(left) {
				all := slices.Insert(slices.Clone(volts), wire, 0)
				if field := must[[]int](t)(volt.Field(left, volts)); !slices.Equal(field, fieldOf(gains, all)) {
					t.Fatalf("Without(%v, %d) = %v", gains, wire, left)
				}
			}
		}
	}
}

// TestSum is of P7.5, with the consequence that Field of Sum is the sum of the fields.
func TestSum(t *testing.T) {
	sums, none := 0, 0
	for i, p := range pairs() {
		a, b := p[0], p[1]
		gains := zeros(1+i%3, len(a))
		for point, row := range gains {
			for wire := range row {
				row[wire] = (i+5*point+7*wire)%19 - 9
			}
		}
		var want []int
		for wire := range a {
			want = append(want, a[wire]+b[wire])
		}
		got := mustBe[[]int](t)(volt.Sum(gains, a, b))
		if slices.Max(want) > api.MaxVolt || slices.Min(want) < -api.MaxVolt {
			none++
			if got.is || len(got.value) > 0 {
				t.Fatalf("Sum(%v, %v) = %v, want none", a, b, got)
			}
			continue
		}
		sums++
		if !got.is || !slices.Equal(got.value, want) {
			t.Fatalf("Sum(%v, %v) = %v, want %v", a, b, got, want)
		}
		field := must[[]int](t)(volt.Field(gains, want))
		for point := range field {
			if field[point] != fieldOf(gains, a)[point]+fieldOf(gains, b)[point] {
				t.Fatalf("the field of Sum(%v, %v) of %v is %v", a, b, gains, field)
			}
		}
	}
	if sums < 1000 || none < 1000 {
		t.Error(sums, none)
	}
}

// TestSumOfSome is of P7.5: the edges of what is voltages, at each electrode.
func TestSumOfSome(t *testing.T) {
	for i, c := range []struct {
		gains      lists
		a, b, want []int
	}{
		{one(), []int{1, -2}, []int{2, -1}, []int{3, -3}},
		{one(), []int{1, -2}, []int{3, -1}, nil},
		{one(), []int{1, -2}, []int{2, -2}, nil},
		{one(), []int{3, -3}, []int{-3, 3}, []int{0, 0}},
		{zeros(1, 1), []int{3}, []int{0}, []int{3}},
		{zeros(1, 1), []int{3}, []int{1}, nil},
		{zeros(1, 1), []int{-3}, []int{-1}, nil},
		{two(), []int{0, 0, 3}, []int{0, 0, 1}, nil},
		{two(), []int{-2, 1, 3}, []int{-1, 2, -3}, []int{-3, 3, 0}},
	} {
		if got := mustBe[[]int](t)(volt.Sum(c.gains, c.a, c.b)); got.is != (c.want != nil) || !slices.Equal(got.value, c.want) {
			t.Errorf("%d: Sum is %v, want %v", i, got, c.want)
		}
	}
}

// listsMade are the results of all functions that return lists.
func listsMade(t *testing.T, gains, row lists, a, b []int) lists {
	t.Helper()
	all := lists{
		must[[]int](t)(volt.Field(gains, a)),
		mustBe[[]int](t)(volt.Volts(gains, row[0])).value,
		mustBe[[]int](t)(volt.Volts(gains, row[1])).value,
		mustBe[[]int](t)(volt.Quiet(gains)).value,
		mustNear(t)(volt.Nearest(gains, row[0])).volts,
		mustBe[[]int](t)(volt.Sum(gains, a, b)).value,
	}
	all = append(all, mustBe[lists](t)(volt.Course(gains, row)).value...)
	all = append(all, mustBe[lists](t)(volt.Course(gains, row[:1])).value...)
	all = append(all, must[lists](t)(volt.Ramp(a, b, 1))...)
	all = append(all, must[lists](t)(volt.Ramp(a, a, 1))...)
	all = append(all, must[lists](t)(volt.Ramp(a, b, 6))...)
	all = append(all, must[lists](t)(volt.Without(gains, 0))...)
	return append(all, must[lists](t)(volt.Without(gains, len(gains[0])-1))...)
}

// withMore are lists with memory behind them that is not part of them.
func withMore(l lists) lists {
	var all lists
	for _, x := range l {
		all = append(all, append(slices.Clone(x), 77, 77)[:len(x)])
	}
	return all
}

// memoryOf is a copy of lists with the memory behind them.
func memoryOf(l lists) lists {
	var all lists
	for _, x := range l {
		all = append(all, slices.Clone(x[:len(x)+2]))
	}
	return all
}

// TestNewMemory is of P7.2 to P7.5 with R5 and R11: no argument is changed, no two lists of results share memory with one another or with an argument, and equal calls return equal results.
func TestNewMemory(t *testing.T) {
	gains := withMore(lists{{1, 2, 1}, {2, 4, 2}})
	row := withMore(lists{{3, 6}, {3, 6}, {-5, -10}, {3, 6}})
	course := withMore(lists{{1, 0, 2}, {1, 0, 2}, {0, -3, 1}, {0, 0, 3}})
	ends := withMore(lists{{-1, 2, 1}, {3, 1, -1}})
	a, b := ends[0], ends[1]
	before := []lists{memoryOf(gains), memoryOf(row), memoryOf(course), memoryOf(ends)}
	volt.CheckVolts(gains, row[0], a)
	volt.Ways(gains, row[0])
	volt.Fields(gains)
	volt.Calmest(gains, row[0])
	volt.Smooth(gains, row)
	volt.Jump(a, b)
	volt.Steps(a, b, 2)
	if jump, e := volt.CheckCourse(gains, row, course); jump != 3 || e != api.OK {
		t.Error(jump, e)
	}
	made := listsMade(t, gains, row, a, b)
	want := copyOf(made)
	for i := range made {
		if len(made[i]) == 0 {
			t.Errorf("the list %d is empty", i)
		}
		// What is written into one list must show in no other one.
		for k := range made[i][:cap(made[i])] {
			made[i][:cap(made[i])][k] = 99
		}
		for k := i + 1; k < len(made); k++ {
			if !slices.Equal(made[k], want[k]) {
				t.Errorf("the lists %d and %d share memory", i, k)
			}
		}
	}
	if again := listsMade(t, gains, row, a, b); !equal(again, want) {
		t.Errorf("the lists are %v, and later %v", want, again)
	}
	for i, now := range []lists{memoryOf(gains), memoryOf(row), memoryOf(course), memoryOf(ends)} {
		if !equal(now, before[i]) {
			t.Errorf("the argument %d was %v and is now %v", i, before[i], now)
		}
	}
}
