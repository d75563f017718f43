package budget_test

import (
	"math/big"
	"math/rand"
	"slices"
	"testing"

	"quadrupole/api"
	"quadrupole/budget"
)

type (
	items   = []api.Item
	patches = []api.Fix
)

// rat is a fraction.
func rat(num, den int) api.Rat {
	return api.Rat{Num: num, Den: den}
}

// use is an item with so many uses of the rate num/den.
func use(uses, num, den int) api.Item {
	return api.Item{Uses: uses, Rate: rat(num, den)}
}

// patch is a fix by which an item has the rate num/den.
func patch(item, num, den, cost int) api.Fix {
	return api.Fix{Item: item, Rate: rat(num, den), Cost: cost}
}

// example is the budget of the chapter's first example, and exampleFixes the fix of its second one.
func example() items        { return items{use(2, 1, 10), use(1, 1, 4)} }
func exampleFixes() patches { return patches{patch(1, 1, 10, 5)} }

// exact is a fraction of which the arithmetic is exact and has no limit.
func exact(x api.Rat) *big.Rat {
	return big.NewRat(int64(x.Num), int64(x.Den))
}

// short is an exact fraction in lowest terms.
func short(x *big.Rat) api.Rat {
	return rat(int(x.Num().Int64()), int(x.Denom().Int64()))
}

// shareOf is the share of an item by the words of the chapter.
func shareOf(item api.Item) *big.Rat {
	return new(big.Rat).Mul(big.NewRat(int64(item.Uses), 1), exact(item.Rate))
}

// totalOf is the total of a budget by the words of the chapter.
func totalOf(l items) *big.Rat {
	sum := new(big.Rat)
	for _, item := range l {
		sum.Add(sum, shareOf(item))
	}
	return sum
}

// chanceOf is the chance of a budget by the words of the chapter.
func chanceOf(l items) *big.Rat {
	one, product := big.NewRat(1, 1), big.NewRat(1, 1)
	for _, item := range l {
		for range item.Uses {
			product.Mul(product, new(big.Rat).Sub(one, exact(item.Rate)))
		}
	}
	return new(big.Rat).Sub(one, product)
}

// closes says by the words of the chapter whether a budget closes.
func closes(l items, limit api.Rat) bool {
	return totalOf(l).Cmp(exact(limit)) <= 0
}

func usesOf(l items) int {
	sum := 0
	for _, item := range l {
		sum += item.Uses
	}
	return sum
}

// allRates are all rates that a valid item can have.
func allRates() []api.Rat {
	var all []api.Rat
	for den := 1; den <= api.MaxDen; den++ {
		for num := 0; num <= den; num++ {
			all = append(all, rat(num, den))
		}
	}
	return all
}

// randomBudget is a budget of so many items with uses of at most most.
func randomBudget(r *rand.Rand, count, most int) items {
	var l items
	rates := allRates()
	for range count {
		l = append(l, api.Item{Uses: 1 + r.Intn(most), Rate: rates[r.Intn(len(rates))]})
	}
	return l
}

// likeBudget is a budget in which many shares are equal, by different fractions.
func likeBudget(r *rand.Rand, count int) items {
	likes := items{use(1, 2, 5), use(2, 1, 5), use(1, 4, 10), use(4, 1, 10), use(2, 2, 10), use(1, 1, 5), use(1, 0, 3)}
	var l items
	for range count {
		l = append(l, likes[r.Intn(len(likes))])
	}
	return l
}

// someBudgets are budgets of all kinds, the same ones each time.
func someBudgets() []items {
	all := []items{nil, example(), slices.Repeat(items{use(8, 1, 1)}, 6), slices.Repeat(items{use(8, 0, 1)}, 6), {use(8, 1, 10)}, {use(8, 9, 10)}}
	for _, rate := range allRates() {
		all = append(all, items{{Uses: 1, Rate: rate}}, items{{Uses: 3, Rate: rate}, use(2, 1, 7)})
	}
	r := rand.New(rand.NewSource(8))
	for range 20 {
		for count := 1; count <= api.MaxItems; count++ {
			all = append(all, randomBudget(r, count, 1), randomBudget(r, count, 2), randomBudget(r, count, api.MaxUses), likeBudget(r, count))
		}
	}
	return all
}

// randomFixes are so many fixes of a budget, with costs of at most most. Some are of no use, and some are for nothing.
func randomFixes(r *rand.Rand, l items, count, most int) patches {
	var fixes patches
	if len(l) == 0 {
		return nil
	}
	rates := allRates()
	for len(fixes) < count {
		item := r.Intn(len(l))
		rate := rates[r.Intn(len(rates))]
		if exact(rate).Cmp(exact(l[item].Rate)) <= 0 {
			fixes = append(fixes, api.Fix{Item: item, Rate: rate, Cost: r.Intn(most + 1)})
		}
	}
	return fixes
}

// plan is a budget with fixes.
type plan struct {
	l     items
	fixes patches
}

// somePlans are budgets with fixes, the same ones each time.
func somePlans() []plan {
	all := []plan{{}, {example(), nil}, {example(), exampleFixes()}}
	r := rand.New(rand.NewSource(88))
	for range 6 {
		for count := 1; count <= api.MaxFixes; count++ {
			for _, most := range []int{0, 2, api.MaxCost} {
				l := randomBudget(r, 1+r.Intn(api.MaxItems), api.MaxUses)
				all = append(all, plan{l, randomFixes(r, l, count, most)})
				l = likeBudget(r, 1+r.Intn(api.MaxItems))
				all = append(all, plan{l, randomFixes(r, l, count, most)})
			}
		}
	}
	return all
}

// choices lists the choices of fixes by the words of the chapter, in ascending order.
func choices(fixes patches) [][]int {
	all := [][]int{nil}
	for number, fix := range fixes {
		for _, before := range slices.Clone(all) {
			if !slices.ContainsFunc(before, func(other int) bool { return fixes[other].Item == fix.Item }) {
				all = append(all, append(slices.Clone(before), number))
			}
		}
	}
	slices.SortFunc(all, slices.Compare[[]int])
	return all
}

// fixed is a budget with a choice, and its cost, by the words of the chapter.
func fixed(p plan, choice []int) (items, int) {
	l, cost := slices.Clone(p.l), 0
	for _, number := range choice {
		l[p.fixes[number].Item].Rate = p.fixes[number].Rate
		cost += p.fixes[number].Cost
	}
	return l, cost
}

// limitsNear are limits that are equal to a total, in lowest terms and not, and the nearest ones below and above it.
func limitsNear(total *big.Rat) []api.Rat {
	x := short(total)
	all := []api.Rat{x, rat(x.Num*3, x.Den*3)}
	den := api.MaxLimit
	if x.Num > x.Den {
		den = api.MaxLimit * x.Den / x.Num
	}
	if below := x.Num*den - 1; below >= 0 {
		all = append(all, rat(below/x.Den, den))
	}
	if above := x.Num*den/x.Den + 1; above <= api.MaxLimit {
		all = append(all, rat(above, den))
	}
	return all
}

// someLimits are the limits near the total of a budget, and others.
func someLimits(l items) []api.Rat {
	all := []api.Rat{rat(0, 1), rat(0, api.MaxLimit), rat(1, 2), rat(3, 6), rat(1, 1), rat(2, 1), rat(api.MaxLimit, 1), rat(api.MaxLimit, api.MaxLimit), rat(1, api.MaxLimit), rat(999999, 1000000), rat(1000000, 999999)}
	return append(all, limitsNear(totalOf(l))...)
}

// limitsOf are limits near the totals that a budget has by its fixes.
func limitsOf(p plan) []api.Rat {
	all := []api.Rat{rat(0, 1), rat(api.MaxLimit, 1)}
	list := choices(p.fixes)
	for k := 0; k < len(list); k += 1 + len(list)/6 {
		l, _ := fixed(p, list[k])
		all = append(all, limitsNear(totalOf(l))...)
	}
	return all
}

// must returns the value of a call that gave no error.
func must[T any](t *testing.T) func(T, api.Errno) T {
	return func(value T, e api.Errno) T {
		t.Helper()
		if e != api.OK {
			t.Fatal(e)
		}
		return value
	}
}

// mayBe is the value of a call that reports whether there is one.
type mayBe[T any] struct {
	value T
	is    bool
}

// mustBe returns the value of a call that gave no error, and whether there is one.
func mustBe[T any](t *testing.T) func(T, bool, api.Errno) mayBe[T] {
	return func(value T, is bool, e api.Errno) mayBe[T] {
		t.Helper()
		if e != api.OK {
			t.Fatal(e)
		}
		return mayBe[T]{value, is}
	}
}

// TestSamples checks that there are samples of all kinds, so that the tests by them are of use.
func TestSamples(t *testing.T) {
	few, many, long, close, open := 0, 0, 0, 0, 0
	for _, l := range someBudgets() {
		if e := budget.Validate(l); e != api.OK {
			t.Fatalf("%v: %v", l, e)
		}
		if usesOf(l) > api.MaxUses {
			many++
		} else {
			few++
		}
		if slices.ContainsFunc(l, func(item api.Item) bool { return short(exact(item.Rate)) != item.Rate }) {
			long++
		}
		for _, limit := range someLimits(l) {
			if e := mustLimit(l, limit); e != api.OK {
				t.Fatalf("%v is no limit: %v", limit, e)
			}
			if closes(l, limit) {
				close++
			} else {
				open++
			}
		}
	}
	if few < 100 || many < 100 || long < 100 || close < 500 || open < 500 {
		t.Error(few, many, long, close, open)
	}
}

// mustLimit is the error of a limit.
func mustLimit(l items, limit api.Rat) api.Errno {
	_, e := budget.Closes(l, limit)
	return e
}

// TestPlanSamples checks the same of the budgets with fixes.
func TestPlanSamples(t *testing.T) {
	twice, never, nothing, paid := 0, 0, 0, 0
	for _, p := range somePlans() {
		if e := budget.ValidateFixes(p.l, p.fixes); e != api.OK {
			t.Fatalf("%v: %v", p, e)
		}
		if len(choices(p.fixes)) < 1<<len(p.fixes) {
			twice++
		}
		for _, limit := range limitsOf(p) {
			switch cost, found := cheapest(p, limit); {
			case !found:
				never++
			case cost == 0:
				nothing++
			default:
				paid++
			}
		}
	}
	if twice < 100 || never < 200 || nothing < 200 || paid < 500 {
		t.Error(twice, never, nothing, paid)
	}
}
