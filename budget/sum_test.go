package budget_test

import (
	"slices"
	"testing"

	"quadrupole/api"
	"quadrupole/budget"
)

// TestShares is of P8.2: Shares and Total, against exact fractions.
func TestShares(t *testing.T) {
	for _, l := range someBudgets() {
		shares := must[[]api.Rat](t)(budget.Shares(l))
		var want []api.Rat
		for _, item := range l {
			want = append(want, short(shareOf(item)))
		}
		if !slices.Equal(shares, want) {
			t.Errorf("Shares(%v) = %v, want %v", l, shares, want)
		}
		if got := must[api.Rat](t)(budget.Total(l)); got != short(totalOf(l)) {
			t.Errorf("Total(%v) = %v, want %v", l, got, totalOf(l))
		}
	}
}

// TestExample is of the chapter's first example.
func TestExample(t *testing.T) {
	if got := must[[]api.Rat](t)(budget.Shares(example())); !slices.Equal(got, []api.Rat{rat(1, 5), rat(1, 4)}) {
		t.Error(got)
	}
	if got := must[api.Rat](t)(budget.Total(example())); got != rat(9, 20) {
		t.Error(got)
	}
	if got := must[api.Rat](t)(budget.Chance(example())); got != rat(157, 400) {
		t.Error(got)
	}
	if got := must[[]int](t)(budget.Worst(example())); !slices.Equal(got, []int{1}) {
		t.Error(got)
	}
}

// TestNoItems is of P8.2: a budget without items has no errors, and always closes.
func TestNoItems(t *testing.T) {
	for _, l := range []items{nil, {}} {
		shares, e := budget.Shares(l)
		worst, f := budget.Worst(l)
		if len(shares) != 0 || e != api.OK || len(worst) != 0 || f != api.OK {
			t.Error(shares, e, worst, f)
		}
		total, e := budget.Total(l)
		chance, f := budget.Chance(l)
		if total != rat(0, 1) || e != api.OK || chance != rat(0, 1) || f != api.OK {
			t.Error(total, e, chance, f)
		}
		if !must[bool](t)(budget.Closes(l, rat(0, 5))) {
			t.Error("no items do not close by 0")
		}
	}
}

// TestSumsAtTheEdge is of P8.2 for the greatest numbers, and for rates of 0 and 1.
func TestSumsAtTheEdge(t *testing.T) {
	for _, x := range []struct {
		l             items
		total, chance api.Rat
		e             api.Errno
	}{
		{items{use(8, 1, 10)}, rat(4, 5), rat(56953279, 100000000), api.OK},
		{items{use(8, 9, 10)}, rat(36, 5), rat(99999999, 100000000), api.OK},
		{items{use(7, 1, 10), use(1, 1, 10)}, rat(4, 5), rat(56953279, 100000000), api.OK},
		{items{use(8, 1, 1)}, rat(8, 1), rat(1, 1), api.OK},
		{items{use(1, 10, 10), use(7, 0, 10)}, rat(1, 1), rat(1, 1), api.OK},
		{items{use(8, 0, 10)}, rat(0, 1), rat(0, 1), api.OK},
		{items{use(8, 0, 10), use(1, 0, 10)}, rat(0, 1), api.Rat{}, api.ErrLarge},
		{items{use(5, 1, 2), use(4, 2, 4)}, rat(9, 2), api.Rat{}, api.ErrLarge},
		{slices.Repeat(items{use(8, 1, 1)}, 6), rat(48, 1), api.Rat{}, api.ErrLarge},
		{items{use(1, 1, 5), use(1, 1, 6), use(1, 1, 7), use(1, 1, 8), use(1, 1, 9), use(1, 1, 10)}, rat(2131, 2520), rat(3, 5), api.OK},
		{items{use(8, 6, 7), use(8, 7, 8), use(8, 8, 9), use(8, 9, 10), use(8, 5, 6), use(8, 4, 5)}, rat(12989, 315), api.Rat{}, api.ErrLarge},
	} {
		if total, e := budget.Total(x.l); total != x.total || e != api.OK {
			t.Errorf("Total(%v) = %v, %v, want %v", x.l, total, e, x.total)
		}
		if chance, e := budget.Chance(x.l); chance != x.chance || e != x.e {
			t.Errorf("Chance(%v) = %v, %v, want %v, %v", x.l, chance, e, x.chance, x.e)
		}
	}
}

// TestChance is of P8.2: Chance, against exact fractions, with its error.
func TestChance(t *testing.T) {
	for _, l := range someBudgets() {
		got, e := budget.Chance(l)
		if usesOf(l) > api.MaxUses {
			if e != api.ErrLarge || got != (api.Rat{}) {
				t.Errorf("Chance(%v) = %v, %v, want ErrLarge", l, got, e)
			}
			continue
		}
		if e != api.OK || got != short(chanceOf(l)) {
			t.Errorf("Chance(%v) = %v, %v, want %v", l, got, e, chanceOf(l))
		}
	}
}

// TestCloses is of P8.2: a budget closes by a limit exactly if the total is at most the limit, however near they are.
func TestCloses(t *testing.T) {
	for _, l := range someBudgets() {
		for _, limit := range someLimits(l) {
			if got := must[bool](t)(budget.Closes(l, limit)); got != closes(l, limit) {
				t.Errorf("Closes(%v, %v) = %v", l, limit, got)
			}
		}
	}
}

// TestChanceIsBelow is of S8: the chance is at most the total, and at most 1, and at most a limit by which the budget closes.
func TestChanceIsBelow(t *testing.T) {
	count := 0
	for _, l := range someBudgets() {
		if usesOf(l) > api.MaxUses {
			continue
		}
		chance := exact(must[api.Rat](t)(budget.Chance(l)))
		if total := exact(must[api.Rat](t)(budget.Total(l))); chance.Cmp(total) > 0 || chance.Cmp(exact(rat(1, 1))) > 0 {
			t.Errorf("%v: the chance %v is above the total %v, or above 1", l, chance, total)
		}
		for _, limit := range someLimits(l) {
			if must[bool](t)(budget.Closes(l, limit)) {
				count++
				if chance.Cmp(exact(limit)) > 0 {
					t.Errorf("%v: the chance %v is above the limit %v", l, chance, limit)
				}
			}
		}
	}
	if count < 500 {
		t.Error(count)
	}
}

// TestWorst is of P8.2: Worst is the set of the items whose share no other one exceeds.
func TestWorst(t *testing.T) {
	several := 0
	for _, l := range someBudgets() {
		var want []int
		for k, item := range l {
			if !slices.ContainsFunc(l, func(other api.Item) bool { return shareOf(other).Cmp(shareOf(item)) > 0 }) {
				want = append(want, k)
			}
		}
		got := must[[]int](t)(budget.Worst(l))
		if !slices.Equal(got, want) {
			t.Errorf("Worst(%v) = %v, want %v", l, got, want)
		}
		if len(got) > 1 {
			several++
		}
	}
	if several < 50 {
		t.Error(several)
	}
}

// TestWorstOnes is of P8.2 for shares that are equal by different fractions, or nearly so.
func TestWorstOnes(t *testing.T) {
	for _, x := range []struct {
		l    items
		want []int
	}{
		{items{use(2, 1, 10), use(1, 2, 10), use(1, 1, 5), use(1, 1, 6)}, []int{0, 1, 2}},
		{items{use(1, 8, 9), use(1, 9, 10), use(1, 7, 8)}, []int{1}},
		{items{use(1, 0, 9), use(8, 0, 1)}, []int{0, 1}},
		{items{use(1, 0, 9), use(8, 1, 10), use(1, 4, 5), use(2, 2, 5)}, []int{1, 2, 3}},
		{items{use(3, 1, 3), use(1, 1, 1), use(2, 5, 10), use(7, 1, 7), use(1, 10, 10), use(8, 1, 8)}, []int{0, 1, 2, 3, 4, 5}},
	} {
		if got := must[[]int](t)(budget.Worst(x.l)); !slices.Equal(got, x.want) {
			t.Errorf("Worst(%v) = %v, want %v", x.l, got, x.want)
		}
	}
}
