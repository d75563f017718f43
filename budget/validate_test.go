package budget_test

import (
	"math"
	"slices"
	"testing"

	"quadrupole/api"
	"quadrupole/budget"
)

// bad are arguments with the error that is wanted of them.
type bad struct {
	l     items
	fixes patches
	e     api.Errno
}

// noNumbers are numbers that are no numbers from 0 to most.
func noNumbers(most int) []int {
	return []int{-1, most + 1, -most - 1, math.MinInt, math.MaxInt, math.MinInt + 1, 1<<32 + 1}
}

// noRates are fractions that are no rates.
func noRates() []api.Rat {
	all := []api.Rat{{}, rat(1, 0), rat(0, -1), rat(-1, -1), rat(0, 11), rat(1, 11), rat(11, 11), rat(2, 20), rat(math.MinInt, math.MinInt), rat(math.MaxInt, math.MaxInt), rat(0, math.MinInt), rat(0, math.MaxInt)}
	for den := 1; den <= api.MaxDen; den++ {
		for _, num := range noNumbers(den) {
			all = append(all, rat(num, den))
		}
	}
	return all
}

// noItems are items that no valid budget has.
func noItems() items {
	var all items
	for _, uses := range append(noNumbers(api.MaxUses), 0) {
		all = append(all, api.Item{Uses: uses, Rate: rat(1, 2)})
	}
	for _, rate := range noRates() {
		all = append(all, api.Item{Uses: 1, Rate: rate})
	}
	return all
}

// noBudgets are lists of items that are no budgets, with their errors.
func noBudgets() []bad {
	all := []bad{{l: make(items, 7), e: api.ErrLarge}, {l: make(items, 1000), e: api.ErrLarge}, {l: slices.Repeat(example(), 4), e: api.ErrLarge}, {l: make(items, 6), e: api.ErrArg}}
	for _, item := range noItems() {
		for count := range api.MaxItems {
			l := slices.Repeat(items{use(8, 3, 3)}, count)
			all = append(all, bad{l: append(l, item), e: api.ErrArg}, bad{l: append(items{item}, l...), e: api.ErrArg})
		}
		all = append(all, bad{l: append(slices.Repeat(items{use(8, 3, 3)}, 6), item), e: api.ErrLarge})
	}
	return all
}

// TestValidate is of P8.1: what is a budget, and what is none.
func TestValidate(t *testing.T) {
	for uses := 1; uses <= api.MaxUses; uses++ {
		for k, rate := range allRates() {
			l := slices.Repeat(items{use(1, 1, 1)}, k%api.MaxItems)
			l = append(l, api.Item{Uses: uses, Rate: rate})
			if e := budget.Validate(l); e != api.OK {
				t.Errorf("%v: %v", l, e)
			}
		}
	}
	for _, x := range noBudgets() {
		if e := budget.Validate(x.l); e != x.e {
			t.Errorf("%v: %v, want %v", x.l, e, x.e)
		}
	}
}

// outcome is the error of a call, and whether all its other results are zero values.
type outcome struct {
	name  string
	e     api.Errno
	empty bool
}

// others are the arguments beside the budget and the fixes.
type others struct {
	limit         api.Rat
	choice, parts []int
	cost, item    int
	by            int
	m             items
}

// callsOf are the functions that are given a budget alone, or with a number or another budget.
func callsOf(l items, o others) []outcome {
	shares, e1 := budget.Shares(l)
	total, e2 := budget.Total(l)
	chance, e3 := budget.Chance(l)
	worst, e4 := budget.Worst(l)
	joined, e5 := budget.Join(l, o.m)
	scaled, e6 := budget.Scale(l, o.by)
	without, e7 := budget.Without(l, o.item)
	return []outcome{
		{"Validate", budget.Validate(l), true},
		{"Shares", e1, len(shares) == 0},
		{"Total", e2, total == api.Rat{}},
		{"Chance", e3, chance == api.Rat{}},
		{"Worst", e4, len(worst) == 0},
		{"Join", e5, len(joined) == 0},
		{"Scale", e6, len(scaled) == 0},
		{"Without", e7, len(without) == 0},
	}
}

// callsBy are the functions that are given a budget and a limit.
func callsBy(l items, o others) []outcome {
	closes, e1 := budget.Closes(l, o.limit)
	room, e2 := budget.Room(l, o.limit, o.item)
	return []outcome{
		{"Closes", e1, !closes},
		{"Room", e2, room == 0},
		{"Allow", budget.Allow(l, o.limit, o.parts), true},
	}
}

// callsFor are the functions that are given a budget, fixes and a limit.
func callsFor(l items, fixes patches, o others) []outcome {
	cost, is, e1 := budget.Cheapest(l, fixes, o.limit)
	choice, found, e2 := budget.Choice(l, fixes, o.limit)
	checked, e3 := budget.CheckChoice(l, fixes, o.limit, o.choice)
	return []outcome{
		{"Cheapest", e1, cost == 0 && !is},
		{"Choice", e2, len(choice) == 0 && !found},
		{"CheckChoice", e3, checked == 0},
	}
}

// callsWith are all functions that are given a budget and fixes.
func callsWith(l items, fixes patches, o others) []outcome {
	with, cost, e1 := budget.With(l, fixes, o.choice)
	best, e2 := budget.Best(l, fixes, o.cost)
	return append(callsFor(l, fixes, o), []outcome{
		{"ValidateFixes", budget.ValidateFixes(l, fixes), true},
		{"With", e1, len(with) == 0 && cost == 0},
		{"Best", e2, best == api.Rat{}},
	}...)
}

// wantAll wants an error, and no other results, of all calls.
func wantAll(t *testing.T, what any, all []outcome, want api.Errno) {
	t.Helper()
	for _, got := range all {
		if got.e != want || want != api.OK && !got.empty {
			t.Errorf("%v: %s: error %v, want %v; other results are zero values: %v", what, got.name, got.e, want, got.empty)
		}
	}
}

// right are arguments for the budget and the fixes of the chapter's examples.
func right() others {
	return others{limit: rat(9, 20), choice: []int{0}, parts: []int{4, 5}, cost: 5, item: 1, by: 2, m: example()}
}

// someOthers are right arguments, and some that have errors of their own.
func someOthers() []others {
	return []others{
		right(),
		{},
		{limit: rat(1, 1), parts: []int{1}, by: 1},
		{limit: rat(-1, 0), choice: []int{9}, parts: []int{-1}, cost: -1, item: -1, by: -1, m: make(items, 7)},
		{limit: rat(1, 1), choice: []int{0, 0}, cost: 793, item: math.MaxInt, by: math.MaxInt, m: items{{}}},
	}
}

// TestBudgetErrorsComeFirst is of P8.1 with R2 and R3.
func TestBudgetErrorsComeFirst(t *testing.T) {
	names := map[string]bool{}
	for _, x := range noBudgets() {
		for _, o := range someOthers() {
			for _, fixes := range []patches{nil, exampleFixes(), make(patches, 9)} {
				all := slices.Concat(callsOf(x.l, o), callsBy(x.l, o), callsWith(x.l, fixes, o))
				for _, got := range all {
					names[got.name] = true
				}
				wantAll(t, x.l, all, x.e)
			}
		}
	}
	if len(names) != 17 {
		t.Errorf("%d functions with a budget, want 17", len(names))
	}
}

// TestRightArguments is of P8.1: what is given is right.
func TestRightArguments(t *testing.T) {
	o := right()
	wantAll(t, o, slices.Concat(callsOf(example(), o), callsBy(example(), o), callsWith(example(), exampleFixes(), o)), api.OK)
}

// TestJoinErrors is of P8.1 and P8.5: the errors of the first budget, then those of the second one, and then that there are too many items.
func TestJoinErrors(t *testing.T) {
	good := []items{nil, example(), slices.Repeat(example(), 3)}
	for _, x := range noBudgets() {
		for _, l := range good {
			got, e := budget.Join(l, x.l)
			tog, f := budget.Join(x.l, l)
			wantAll(t, x.l, []outcome{{"Join", e, len(got) == 0}, {"Join to", f, len(tog) == 0}}, x.e)
		}
		large, e := budget.Join(make(items, 7), x.l)
		wrong, f := budget.Join(items{{}}, x.l)
		wantAll(t, x.l, []outcome{{"Join", e, len(large) == 0}}, api.ErrLarge)
		wantAll(t, x.l, []outcome{{"Join", f, len(wrong) == 0}}, api.ErrArg)
	}
	for count := range 7 {
		for other := range 7 {
			want := api.OK
			if count+other > api.MaxItems {
				want = api.ErrLarge
			}
			got, e := budget.Join(slices.Repeat(items{use(1, 1, 2)}, count), slices.Repeat(items{use(2, 1, 2)}, other))
			wantAll(t, count, []outcome{{"Join", e, len(got) == 0}}, want)
		}
	}
}

// noFixes are lists of fixes that are none of the budget of two items with the rates 1/2 and 3/10, with their errors.
func noFixes() (items, []bad) {
	l := items{use(1, 5, 10), use(2, 3, 10)}
	good := api.Fix{Item: 1, Rate: rat(1, 4), Cost: api.MaxCost}
	all := []bad{{l, make(patches, 9), api.ErrLarge}, {l, make(patches, 1000), api.ErrLarge}, {l, slices.Repeat(patches{good}, 9), api.ErrLarge}, {l, make(patches, 8), api.ErrArg}}
	var wrong patches
	for _, item := range noNumbers(1) {
		wrong = append(wrong, api.Fix{Item: item, Rate: rat(0, 1)})
	}
	for _, cost := range noNumbers(api.MaxCost) {
		wrong = append(wrong, api.Fix{Item: 0, Rate: rat(0, 1), Cost: cost})
	}
	for _, rate := range append(noRates(), rat(1, 1), rat(5, 9), rat(3, 5), rat(6, 10), rat(4, 7)) {
		wrong = append(wrong, api.Fix{Item: 0, Rate: rate})
	}
	for _, rate := range append(noRates(), rat(1, 3), rat(1, 2), rat(4, 10), rat(3, 9), rat(2, 6)) {
		wrong = append(wrong, api.Fix{Item: 1, Rate: rate})
	}
	for k, fix := range wrong {
		before := slices.Repeat(patches{good}, k%8)
		all = append(all, bad{l, append(before, fix), api.ErrArg}, bad{l, append(patches{fix}, before...), api.ErrArg})
		all = append(all, bad{l, append(slices.Repeat(patches{good}, 8), fix), api.ErrLarge})
	}
	return l, all
}

// TestFixErrors is of P8.1: what are fixes of a budget, and what are none. Their errors come before those of what is given beside them.
func TestFixErrors(t *testing.T) {
	l, all := noFixes()
	for _, x := range all {
		for _, o := range someOthers() {
			wantAll(t, x.fixes, callsWith(x.l, x.fixes, o), x.e)
		}
	}
	for item := range l {
		for _, rate := range allRates() {
			for _, cost := range []int{0, 1, api.MaxCost} {
				fixes := patches{patch(0, 0, 7, 0), {Item: item, Rate: rate, Cost: cost}}
				want := api.ErrArg
				if exact(rate).Cmp(exact(l[item].Rate)) <= 0 {
					want = api.OK
				}
				if e := budget.ValidateFixes(l, fixes); e != want {
					t.Errorf("%v: %v, want %v", fixes, e, want)
				}
			}
		}
	}
	for count := range 11 {
		want := api.OK
		if count > api.MaxFixes {
			want = api.ErrLarge
		}
		if e := budget.ValidateFixes(l, slices.Repeat(patches{patch(0, 1, 2, 0)}, count)); e != want {
			t.Errorf("%d fixes: %v, want %v", count, e, want)
		}
	}
	if e := budget.ValidateFixes(nil, patches{{}}); e != api.ErrArg {
		t.Errorf("a fix of no items: %v", e)
	}
}

// noLimits are fractions that are no limits.
func noLimits() []api.Rat {
	all := []api.Rat{{}, rat(1, 0), rat(-1, -2), rat(1, -1), rat(1, 1000001), rat(0, 1000001), rat(0, math.MaxInt), rat(0, math.MinInt), rat(1000001, 1000001), rat(math.MinInt, math.MinInt)}
	for _, num := range noNumbers(api.MaxLimit) {
		all = append(all, rat(num, 1), rat(num, 7), rat(num, api.MaxLimit))
	}
	return all
}

// TestLimitErrors is of P8.1: the limit is none, which comes after that there is no item, and before that a choice has two fixes of an item, that parts are none, and that something does not close.
func TestLimitErrors(t *testing.T) {
	twice := patches{patch(1, 1, 5, 1), patch(1, 1, 6, 1)}
	for _, limit := range noLimits() {
		for _, o := range someOthers() {
			o.limit, o.item = limit, 1
			wantAll(t, limit, callsBy(example(), o), api.ErrArg)
			wantAll(t, limit, callsFor(example(), exampleFixes(), o), api.ErrArg)
			o.choice = []int{0, 1}
			wantAll(t, limit, callsFor(example(), twice, o), api.ErrArg)
		}
	}
	for _, num := range []int{0, 1, 999999, api.MaxLimit} {
		for _, den := range []int{1, 2, 999999, api.MaxLimit} {
			must[bool](t)(budget.Closes(example(), rat(num, den)))
			mustBe[int](t)(budget.Cheapest(example(), exampleFixes(), rat(num, den)))
		}
	}
}

// TestItemErrors is of P8.1: there is no such item, which comes before that the limit is none, and before that the budget does not close.
func TestItemErrors(t *testing.T) {
	for count := range api.MaxItems + 1 {
		l := slices.Repeat(items{use(8, 1, 1)}, count)
		for _, item := range append(noNumbers(5), count, count+1) {
			for _, limit := range append(noLimits(), rat(0, 1), rat(100, 1)) {
				room, e := budget.Room(l, limit, item)
				without, f := budget.Without(l, item)
				wantAll(t, item, []outcome{{"Room", e, room == 0}, {"Without", f, len(without) == 0}}, api.ErrNone)
			}
		}
		for item := range count {
			room, e := budget.Room(l, rat(100, 1), item)
			without, f := budget.Without(l, item)
			wantAll(t, item, []outcome{{"Room", e, room == 0}, {"Without", f, len(without) == 0}}, api.OK)
		}
	}
}

// TestChoiceErrors is of P8.1: a choice is no set of numbers of fixes, or has two fixes of an item, which comes after all of the former and before that the budget does not close.
func TestChoiceErrors(t *testing.T) {
	fixes := patches{patch(0, 1, 10, 1), patch(1, 1, 5, 1), patch(0, 1, 10, 1), patch(1, 1, 6, 1)}
	for _, x := range []struct {
		choice []int
		want   api.Errno
	}{
		{nil, api.OK}, {[]int{0}, api.OK}, {[]int{3}, api.OK}, {[]int{0, 1}, api.OK}, {[]int{0, 3}, api.OK}, {[]int{1, 2}, api.OK}, {[]int{2, 3}, api.OK},
		{[]int{0, 2}, api.ErrTwice}, {[]int{1, 3}, api.ErrTwice}, {[]int{0, 1, 2}, api.ErrTwice}, {[]int{1, 2, 3}, api.ErrTwice}, {[]int{0, 1, 3}, api.ErrTwice}, {[]int{0, 1, 2, 3}, api.ErrTwice},
		{[]int{0, 2, 4}, api.ErrArg}, {[]int{0, 2, 2}, api.ErrArg}, {[]int{0, 2, 1}, api.ErrArg}, {[]int{0, 2, math.MaxInt}, api.ErrArg}, {[]int{-1, 0, 2}, api.ErrArg},
		{[]int{4}, api.ErrArg}, {[]int{-1}, api.ErrArg}, {[]int{1, 0}, api.ErrArg}, {[]int{1, 1}, api.ErrArg}, {[]int{2, 0}, api.ErrArg}, {[]int{math.MinInt}, api.ErrArg}, {[]int{math.MaxInt}, api.ErrArg}, {make([]int, 1000), api.ErrArg},
	} {
		with, cost, e := budget.With(example(), fixes, x.choice)
		checked, f := budget.CheckChoice(example(), fixes, rat(1, 1), x.choice)
		wantAll(t, x.choice, []outcome{{"With", e, len(with) == 0 && cost == 0}, {"CheckChoice", f, checked == 0}}, x.want)
		if x.want == api.OK {
			x.want = api.ErrRule
		}
		checked, f = budget.CheckChoice(example(), fixes, rat(0, 1), x.choice)
		wantAll(t, x.choice, []outcome{{"CheckChoice by 0", f, checked == 0}}, x.want)
	}
	for _, choice := range [][]int{{0}, {-1}, {0, 1}} {
		if l, cost, e := budget.With(example(), nil, choice); e != api.ErrArg || len(l) != 0 || cost != 0 {
			t.Errorf("With %v of no fixes: %v, %d, %v", choice, l, cost, e)
		}
	}
}

// TestCostErrors is of P8.1: the cost is not from 0 to 792.
func TestCostErrors(t *testing.T) {
	for _, cost := range noNumbers(792) {
		best, e := budget.Best(example(), exampleFixes(), cost)
		none, f := budget.Best(nil, nil, cost)
		wantAll(t, cost, []outcome{{"Best", e, best == api.Rat{}}, {"Best of nothing", f, none == api.Rat{}}}, api.ErrArg)
	}
	for cost := range 793 {
		want := rat(9, 20)
		if cost >= 5 {
			want = rat(3, 10)
		}
		if got := must[api.Rat](t)(budget.Best(example(), exampleFixes(), cost)); got != want {
			t.Errorf("Best for %d is %v, want %v", cost, got, want)
		}
	}
	if got := must[api.Rat](t)(budget.Best(nil, nil, 0)); got != rat(0, 1) {
		t.Error(got)
	}
}
