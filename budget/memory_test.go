package budget_test

import (
	"slices"
	"testing"

	"quadrupole/api"
	"quadrupole/budget"
)

// withMore is a list with more behind it in its memory, which no call may change.
func withMore[T any](l []T, more T) []T {
	return append(slices.Clone(l), more, more, more, more, more)[:len(l)]
}

// memoryOf is a copy of a list and of what is behind it.
func memoryOf[T any](l []T) []T {
	return slices.Clone(l[:cap(l)])
}

// checkNew checks that lists do not share memory, and that the same ones are made again after all of them have been overwritten.
func checkNew[T comparable](t *testing.T, made func() [][]T, other T) {
	t.Helper()
	lists, want := made(), made()
	for i, l := range lists {
		if len(l) == 0 {
			t.Errorf("the list %d is empty", i)
		}
		for k := range l[:cap(l)] {
			l[:cap(l)][k] = other
		}
		for k := i + 1; k < len(lists); k++ {
			if !slices.Equal(lists[k], want[k]) {
				t.Errorf("the lists %d and %d share memory", i, k)
			}
		}
	}
	if again := made(); !slices.EqualFunc(again, want, slices.Equal[[]T]) {
		t.Errorf("the lists are %v, and later %v", want, again)
	}
}

// arguments are arguments of all functions.
type arguments struct {
	l, m          items
	fixes         patches
	choice, parts []int
}

// itemsMade are all the items that the functions return.
func itemsMade(t *testing.T, a arguments) [][]api.Item {
	made := must[items](t)
	return [][]api.Item{
		mustBuy(t)(budget.With(a.l, a.fixes, a.choice)).l,
		mustBuy(t)(budget.With(a.l, a.fixes, nil)).l,
		made(budget.Join(a.l, a.m)),
		made(budget.Join(a.l, nil)),
		made(budget.Join(nil, a.m)),
		made(budget.Scale(a.l, 3)),
		made(budget.Scale(a.l, 1)),
		made(budget.Without(a.l, 0)),
		made(budget.Without(a.l, 1)),
	}
}

// numbersMade are all the lists of numbers that the functions return.
func numbersMade(t *testing.T, a arguments) [][]int {
	return [][]int{
		must[[]int](t)(budget.Worst(a.l)),
		mustBe[[]int](t)(budget.Choice(a.l, a.fixes, rat(1, 4))).value,
		mustBe[[]int](t)(budget.Choice(a.l, a.fixes, rat(3, 10))).value,
	}
}

// callOthers calls the functions that return no lists.
func callOthers(t *testing.T, a arguments) {
	budget.Validate(a.l)
	budget.ValidateFixes(a.l, a.fixes)
	must[api.Rat](t)(budget.Total(a.l))
	must[api.Rat](t)(budget.Chance(a.l))
	must[bool](t)(budget.Closes(a.l, rat(1, 2)))
	mustBe[int](t)(budget.Cheapest(a.l, a.fixes, rat(1, 4)))
	must[int](t)(budget.CheckChoice(a.l, a.fixes, rat(1, 4), a.choice))
	must[api.Rat](t)(budget.Best(a.l, a.fixes, 11))
	must[int](t)(budget.Room(a.l, rat(1, 1), 0))
	if e := budget.Allow(a.l, rat(9, 20), a.parts); e != api.OK {
		t.Error(e)
	}
}

// TestNewMemory is of P8.2 to P8.5 with R5 and R11: no argument is changed, no two lists of results share memory with one another or with an argument, and equal calls return equal results.
func TestNewMemory(t *testing.T) {
	more := api.Item{Uses: 7, Rate: rat(7, 7)}
	a := arguments{
		l:      withMore(example(), more),
		m:      withMore(items{use(3, 2, 6)}, more),
		fixes:  withMore(append(exampleFixes(), api.Fix{Item: 0, Rate: rat(0, 10), Cost: 6}), api.Fix{Cost: 7}),
		choice: withMore([]int{0, 1}, 77),
		parts:  withMore([]int{4, 5}, 77),
	}
	before := arguments{memoryOf(a.l), memoryOf(a.m), memoryOf(a.fixes), memoryOf(a.choice), memoryOf(a.parts)}
	callOthers(t, a)
	checkNew(t, func() [][]api.Item { return itemsMade(t, a) }, api.Item{Uses: 99})
	checkNew(t, func() [][]int { return numbersMade(t, a) }, 99)
	checkNew(t, func() [][]api.Rat { return [][]api.Rat{must[[]api.Rat](t)(budget.Shares(a.l))} }, rat(99, 1))
	now := arguments{memoryOf(a.l), memoryOf(a.m), memoryOf(a.fixes), memoryOf(a.choice), memoryOf(a.parts)}
	if !slices.Equal(now.l, before.l) || !slices.Equal(now.m, before.m) || !slices.Equal(now.fixes, before.fixes) || !slices.Equal(now.choice, before.choice) || !slices.Equal(now.parts, before.parts) {
		t.Errorf("the arguments were %v and are now %v", before, now)
	}
}
