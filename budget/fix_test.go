package budget_test

import (
	"slices"
	"testing"

	"quadrupole/api"
	"quadrupole/budget"
)

// bought is the outcome of With.
type bought struct {
	l    items
	cost int
}

// mustBuy returns the outcome of a call of With that gave no error.
func mustBuy(t *testing.T) func(items, int, api.Errno) bought {
	return func(l items, cost int, e api.Errno) bought {
		t.Helper()
		if e != api.OK {
			t.Fatal(e)
		}
		return bought{l, cost}
	}
}

// cheapest is the smallest cost of a choice by which a budget closes, by the words of the chapter.
func cheapest(p plan, limit api.Rat) (int, bool) {
	least, found := 0, false
	for _, choice := range choices(p.fixes) {
		l, cost := fixed(p, choice)
		if closes(l, limit) && (!found || cost < least) {
			least, found = cost, true
		}
	}
	return least, found
}

// firstOf is the first choice, in ascending order, with a cost by which a budget closes.
func firstOf(p plan, limit api.Rat, cost int) []int {
	for _, choice := range choices(p.fixes) {
		l, c := fixed(p, choice)
		if c == cost && closes(l, limit) {
			return choice
		}
	}
	return nil
}

// TestWith is of P8.3: the budget with a choice has the rates of its fixes as they are given, and the cost is the sum of theirs.
func TestWith(t *testing.T) {
	for _, p := range somePlans() {
		for _, choice := range choices(p.fixes) {
			got := mustBuy(t)(budget.With(p.l, p.fixes, choice))
			if l, cost := fixed(p, choice); !slices.Equal(got.l, l) || got.cost != cost {
				t.Errorf("With(%v, %v) = %v, want %v, %d", p, choice, got, l, cost)
			}
		}
	}
}

// TestRatesStay is of P8.1: rates of items that are returned are as they are given.
func TestRatesStay(t *testing.T) {
	l := items{use(1, 4, 8), use(2, 0, 7), use(3, 10, 10)}
	fixes := patches{patch(2, 6, 9, 1), patch(1, 0, 3, 2), patch(0, 5, 10, 99)}
	for _, x := range []struct {
		choice []int
		want   bought
	}{
		{nil, bought{l, 0}},
		{[]int{0}, bought{items{use(1, 4, 8), use(2, 0, 7), use(3, 6, 9)}, 1}},
		{[]int{1, 2}, bought{items{use(1, 5, 10), use(2, 0, 3), use(3, 10, 10)}, 101}},
		{[]int{0, 1, 2}, bought{items{use(1, 5, 10), use(2, 0, 3), use(3, 6, 9)}, 102}},
	} {
		if got := mustBuy(t)(budget.With(l, fixes, x.choice)); !slices.Equal(got.l, x.want.l) || got.cost != x.want.cost {
			t.Errorf("With %v: %v, want %v", x.choice, got, x.want)
		}
	}
}

// TestCheapest is of P8.3: Cheapest, Choice and CheckChoice, against all choices.
func TestCheapest(t *testing.T) {
	several := 0
	for _, p := range somePlans() {
		for _, limit := range limitsOf(p) {
			cost, found := cheapest(p, limit)
			if got := mustBe[int](t)(budget.Cheapest(p.l, p.fixes, limit)); got.value != cost || got.is != found {
				t.Errorf("Cheapest(%v, %v) = %v, want %d, %v", p, limit, got, cost, found)
			}
			first := firstOf(p, limit, cost)
			if got := mustBe[[]int](t)(budget.Choice(p.l, p.fixes, limit)); !slices.Equal(got.value, first) || got.is != found {
				t.Errorf("Choice(%v, %v) = %v, want %v, %v", p, limit, got, first, found)
			}
			if got, e := budget.CheckChoice(p.l, p.fixes, limit, first); found && (got != cost || e != api.OK) {
				t.Errorf("CheckChoice(%v, %v, %v) = %d, %v, want %d", p, limit, first, got, e, cost)
			}
			if len(first) > 1 {
				several++
			}
		}
	}
	if several < 200 {
		t.Error(several)
	}
}

// TestCheckChoice is of P8.3: the cost of a choice, and ErrRule if the budget with it does not close.
func TestCheckChoice(t *testing.T) {
	for _, p := range somePlans() {
		list := choices(p.fixes)
		for k := 0; k < len(list); k += 1 + len(list)/10 {
			l, cost := fixed(p, list[k])
			for _, limit := range someLimits(l) {
				got, e := budget.CheckChoice(p.l, p.fixes, limit, list[k])
				if closes(l, limit) && (got != cost || e != api.OK) || !closes(l, limit) && (got != 0 || e != api.ErrRule) {
					t.Errorf("CheckChoice(%v, %v, %v) = %d, %v", p, limit, list[k], got, e)
				}
			}
		}
	}
}

// TestFirstChoice is of P8.3 for choices that cost the same, of which a beginning comes before what goes on.
func TestFirstChoice(t *testing.T) {
	l := items{use(1, 1, 2), use(1, 1, 2), use(1, 1, 2)}
	for _, x := range []struct {
		fixes patches
		limit api.Rat
		cost  int
		want  []int
		is    bool
	}{
		{nil, rat(3, 2), 0, nil, true},
		{nil, rat(149, 100), 0, nil, false},
		{patches{patch(0, 1, 2, 0), patch(0, 0, 1, 0)}, rat(3, 2), 0, nil, true},
		{patches{patch(0, 1, 2, 0), patch(1, 0, 1, 0)}, rat(1, 1), 0, []int{0, 1}, true},
		{patches{patch(0, 0, 1, 0), patch(1, 0, 1, 0)}, rat(1, 1), 0, []int{0}, true},
		{patches{patch(0, 0, 1, 2), patch(1, 0, 1, 2), patch(2, 0, 1, 2)}, rat(1, 2), 4, []int{0, 1}, true},
		{patches{patch(0, 0, 1, 3), patch(1, 0, 1, 2), patch(2, 0, 1, 2)}, rat(1, 2), 4, []int{1, 2}, true},
		{patches{patch(0, 0, 1, 4), patch(1, 1, 4, 2), patch(2, 1, 4, 2)}, rat(1, 1), 4, []int{0}, true},
		{patches{patch(1, 1, 4, 2), patch(0, 0, 1, 4), patch(2, 1, 4, 2)}, rat(1, 1), 4, []int{0, 2}, true},
		{patches{patch(0, 1, 4, 9), patch(0, 1, 4, 9), patch(0, 2, 8, 9)}, rat(5, 4), 9, []int{0}, true},
		{patches{patch(0, 1, 4, 1), patch(0, 1, 4, 1)}, rat(1, 1), 0, nil, false},
		{patches{patch(0, 0, 1, 99), patch(1, 0, 1, 99), patch(2, 0, 1, 99)}, rat(0, 1), 297, []int{0, 1, 2}, true},
	} {
		if got := mustBe[[]int](t)(budget.Choice(l, x.fixes, x.limit)); !slices.Equal(got.value, x.want) || got.is != x.is {
			t.Errorf("Choice of %v by %v: %v, want %v, %v", x.fixes, x.limit, got, x.want, x.is)
		}
		if got := mustBe[int](t)(budget.Cheapest(l, x.fixes, x.limit)); got.value != x.cost || got.is != x.is {
			t.Errorf("Cheapest of %v by %v: %v, want %d, %v", x.fixes, x.limit, got, x.cost, x.is)
		}
	}
}

// TestFixExample is of the chapter's second example.
func TestFixExample(t *testing.T) {
	with := mustBuy(t)(budget.With(example(), exampleFixes(), []int{0}))
	if got := must[api.Rat](t)(budget.Total(with.l)); got != rat(3, 10) || with.cost != 5 {
		t.Error(got, with.cost)
	}
	if got := mustBe[int](t)(budget.Cheapest(example(), exampleFixes(), rat(3, 10))); got.value != 5 || !got.is {
		t.Error(got)
	}
}

// someCosts are costs at which the best total may change, and those at the edge.
func someCosts(p plan) []int {
	all := []int{0, 1, 2, 3, 99, 100, 791, 792}
	for k, choice := range choices(p.fixes) {
		if _, cost := fixed(p, choice); k%7 == 1 {
			all = append(all, cost, max(cost-1, 0))
		}
	}
	slices.Sort(all)
	return slices.Compact(all)
}

// TestBest is of P8.3: the smallest total of the choices that cost at most so much.
func TestBest(t *testing.T) {
	for _, p := range somePlans() {
		for _, most := range someCosts(p) {
			least := totalOf(p.l)
			for _, choice := range choices(p.fixes) {
				if l, cost := fixed(p, choice); cost <= most && totalOf(l).Cmp(least) < 0 {
					least = totalOf(l)
				}
			}
			if got := must[api.Rat](t)(budget.Best(p.l, p.fixes, most)); got != short(least) {
				t.Errorf("Best(%v, %d) = %v, want %v", p, most, got, least)
			}
		}
	}
}

// TestCheapestByLimits is a consequence of P8.3: Cheapest never falls when the limit does.
func TestCheapestByLimits(t *testing.T) {
	rises := 0
	for _, p := range somePlans() {
		limits := limitsOf(p)
		slices.SortFunc(limits, func(a, b api.Rat) int { return exact(b).Cmp(exact(a)) })
		before := mayBe[int]{0, true}
		for _, limit := range limits {
			got := mustBe[int](t)(budget.Cheapest(p.l, p.fixes, limit))
			if got.is && (!before.is || got.value < before.value) {
				t.Errorf("%v: Cheapest by %v is %v, and by more %v", p, limit, got, before)
			}
			if got != before {
				rises++
			}
			before = got
		}
	}
	if rises < 200 {
		t.Error(rises)
	}
}

// TestBestByCosts is a consequence of P8.3: Best never grows with the cost, and the budget closes by it exactly if Cheapest is at most this cost.
func TestBestByCosts(t *testing.T) {
	falls, closed, open := 0, 0, 0
	for _, p := range somePlans() {
		before := totalOf(p.l)
		for _, cost := range someCosts(p) {
			best := exact(must[api.Rat](t)(budget.Best(p.l, p.fixes, cost)))
			switch best.Cmp(before) {
			case 1:
				t.Errorf("%v: Best for %d is %v, and for less %v", p, cost, best, before)
			case -1:
				falls++
			}
			before = best
			for _, limit := range limitsOf(p) {
				cheap := mustBe[int](t)(budget.Cheapest(p.l, p.fixes, limit))
				enough := cheap.is && cheap.value <= cost
				if enough {
					closed++
				} else {
					open++
				}
				if (best.Cmp(exact(limit)) <= 0) != enough {
					t.Errorf("%v by %v: Best for %d is %v, and Cheapest %v", p, limit, cost, best, cheap)
				}
			}
		}
	}
	if falls < 200 || closed < 1000 || open < 1000 {
		t.Error(falls, closed, open)
	}
}
