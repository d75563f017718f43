package budget_test

import (
	"math"
	"math/big"
	"slices"
	"testing"

	"quadrupole/api"
	"quadrupole/budget"
)

// TestJoin is of P8.5: the items of both, and the total of which is the sum of the totals.
func TestJoin(t *testing.T) {
	all := someBudgets()
	joined, large := 0, 0
	for k, l := range all {
		for _, m := range []items{nil, l, all[(k+1)%len(all)], all[(k*k+7)%len(all)], all[(3*k+2)%len(all)]} {
			got, e := budget.Join(l, m)
			if len(l)+len(m) > api.MaxItems {
				large++
				if e != api.ErrLarge || len(got) != 0 {
					t.Errorf("Join(%v, %v) = %v, %v, want ErrLarge", l, m, got, e)
				}
				continue
			}
			joined++
			if e != api.OK || !slices.Equal(got, slices.Concat(l, m)) {
				t.Errorf("Join(%v, %v) = %v, %v", l, m, got, e)
			}
			sum := new(big.Rat).Add(exact(must[api.Rat](t)(budget.Total(l))), exact(must[api.Rat](t)(budget.Total(m))))
			if total := must[api.Rat](t)(budget.Total(got)); total != short(sum) {
				t.Errorf("%v and %v: the total is %v, and not %v", l, m, total, sum)
			}
		}
	}
	if joined < 500 || large < 500 {
		t.Error(joined, large)
	}
}

// TestScale is of P8.5: all uses are multiplied, and so is the total.
func TestScale(t *testing.T) {
	scaled, wrong := 0, 0
	for _, l := range someBudgets() {
		for _, by := range []int{1, 2, 3, 4, 5, 6, 7, 8, 9, 0, -1, -8} {
			can := true
			var want items
			for _, item := range l {
				uses := item.Uses * by
				can = can && 1 <= uses && uses <= api.MaxUses
				want = append(want, api.Item{Uses: uses, Rate: item.Rate})
			}
			got, e := budget.Scale(l, by)
			if !can {
				wrong++
				if e != api.ErrArg || len(got) != 0 {
					t.Errorf("Scale(%v, %d) = %v, %v, want ErrArg", l, by, got, e)
				}
				continue
			}
			scaled++
			if e != api.OK || !slices.Equal(got, want) {
				t.Errorf("Scale(%v, %d) = %v, %v, want %v", l, by, got, e, want)
			}
			product := new(big.Rat).Mul(exact(must[api.Rat](t)(budget.Total(l))), big.NewRat(int64(by), 1))
			if total := must[api.Rat](t)(budget.Total(got)); len(l) > 0 && total != short(product) {
				t.Errorf("%v times %d: the total is %v, and not %v", l, by, total, product)
			}
		}
	}
	if scaled < 500 || wrong < 500 {
		t.Error(scaled, wrong)
	}
}

// TestScaleBeyond is of P8.5 for products that are beyond the integers of the language, of which the lowest bits are from 1 to 8; and for no items, of which none is wrong.
func TestScaleBeyond(t *testing.T) {
	for _, by := range []int{math.MinInt, math.MinInt + 1, math.MaxInt, math.MaxInt - 1, 1<<61 + 1, 1<<62 + 1, -1 << 62, 1<<32 + 1, 9, 0, -1} {
		for uses := 1; uses <= api.MaxUses; uses++ {
			for _, l := range []items{{use(uses, 1, 2)}, {use(1, 1, 2), use(uses, 1, 2)}} {
				if got, e := budget.Scale(l, by); e != api.ErrArg || len(got) != 0 {
					t.Errorf("Scale(%v, %d) = %v, %v, want ErrArg", l, by, got, e)
				}
			}
		}
		if got, e := budget.Scale(nil, by); e != api.OK || len(got) != 0 {
			t.Errorf("Scale of no items by %d: %v, %v", by, got, e)
		}
	}
	if got, e := budget.Scale(items{use(1, 2, 4), use(2, 0, 9)}, 4); e != api.OK || !slices.Equal(got, items{use(4, 2, 4), use(8, 0, 9)}) {
		t.Error(got, e)
	}
	if got, e := budget.Scale(items{use(1, 2, 4), use(2, 0, 9)}, 5); e != api.ErrArg || len(got) != 0 {
		t.Error(got, e)
	}
}

// TestWithout is of P8.5: the item is left out, and the total is smaller by its share.
func TestWithout(t *testing.T) {
	for _, l := range someBudgets() {
		for k := range l {
			got := must[items](t)(budget.Without(l, k))
			if !slices.Equal(got, slices.Concat(l[:k], l[k+1:])) {
				t.Errorf("Without(%v, %d) = %v", l, k, got)
			}
			less := new(big.Rat).Sub(exact(must[api.Rat](t)(budget.Total(l))), exact(must[[]api.Rat](t)(budget.Shares(l))[k]))
			if total := must[api.Rat](t)(budget.Total(got)); total != short(less) {
				t.Errorf("%v without %d: the total is %v, and not %v", l, k, total, less)
			}
		}
		for _, k := range []int{-1, len(l), len(l) + 1, math.MinInt, math.MaxInt} {
			if got, e := budget.Without(l, k); e != api.ErrNone || len(got) != 0 {
				t.Errorf("Without(%v, %d) = %v, %v, want ErrNone", l, k, got, e)
			}
		}
	}
}
