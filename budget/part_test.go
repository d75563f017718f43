package budget_test

import (
	"math"
	"math/rand"
	"slices"
	"testing"

	"quadrupole/api"
	"quadrupole/budget"
)

// roomOf is the room of an item by the words of the chapter: one more use after the other.
func roomOf(l items, limit api.Rat, item int) int {
	total, rate, most := totalOf(l), exact(l[item].Rate), exact(limit)
	for more := range 1000 {
		if total.Add(total, rate).Cmp(most) > 0 {
			return more
		}
	}
	return 1000
}

// TestRoom is of P8.4: Room, against uses that grow one by one.
func TestRoom(t *testing.T) {
	none, some, all, not := 0, 0, 0, 0
	for number, l := range someBudgets() {
		if len(l) == 0 {
			continue
		}
		item := number % len(l)
		for _, limit := range append(someLimits(l), rat(3, 1), rat(50, 1), rat(100, 1), rat(1000, 7)) {
			got, e := budget.Room(l, limit, item)
			if !closes(l, limit) {
				not++
				if got != 0 || e != api.ErrRule {
					t.Errorf("Room(%v, %v, %d) = %d, %v, want ErrRule", l, limit, item, got, e)
				}
				continue
			}
			want := roomOf(l, limit, item)
			if got != want || e != api.OK {
				t.Errorf("Room(%v, %v, %d) = %d, %v, want %d", l, limit, item, got, e, want)
			}
			switch want {
			case 0:
				none++
			case 1000:
				all++
			default:
				some++
			}
		}
	}
	if none < 100 || some < 500 || all < 100 || not < 500 {
		t.Error(none, some, all, not)
	}
}

// TestRooms is of P8.4 for the chapter's third example and what lies at the edge: rates of 0, limits that are kept exactly, and 1000.
func TestRooms(t *testing.T) {
	for _, x := range []struct {
		l     items
		limit api.Rat
		item  int
		want  int
		e     api.Errno
	}{
		{example(), rat(1, 2), 0, 0, api.OK},
		{example(), rat(11, 20), 0, 1, api.OK},
		{example(), rat(549999, 1000000), 0, 0, api.OK},
		{example(), rat(9, 20), 0, 0, api.OK},
		{example(), rat(449999, 1000000), 0, 0, api.ErrRule},
		{example(), rat(1, 2), 1, 0, api.OK},
		{example(), rat(7, 10), 1, 1, api.OK},
		{example(), rat(10045, 100), 0, 1000, api.OK},
		{example(), rat(10044, 100), 0, 999, api.OK},
		{example(), rat(10055, 100), 0, 1000, api.OK},
		{items{use(8, 1, 1)}, rat(1008, 1), 0, 1000, api.OK},
		{items{use(8, 1, 1)}, rat(1007, 1), 0, 999, api.OK},
		{items{use(8, 1, 1)}, rat(1000000, 1), 0, 1000, api.OK},
		{items{use(8, 1, 1)}, rat(8, 1), 0, 0, api.OK},
		{items{use(8, 0, 3)}, rat(0, 1), 0, 1000, api.OK},
		{items{use(8, 0, 3), use(1, 1, 3)}, rat(2, 6), 0, 1000, api.OK},
		{items{use(8, 0, 3), use(1, 1, 3)}, rat(333333, 1000000), 0, 0, api.ErrRule},
		{items{use(8, 0, 3), use(1, 1, 3)}, rat(333333, 1000000), 1, 0, api.ErrRule},
	} {
		if got, e := budget.Room(x.l, x.limit, x.item); got != x.want || e != x.e {
			t.Errorf("Room(%v, %v, %d) = %d, %v, want %d, %v", x.l, x.limit, x.item, got, e, x.want, x.e)
		}
	}
}

// allowed is what Allow returns for right parts, by the words of the chapter.
func allowed(l items, limit api.Rat, parts []int) api.Errno {
	sum := 0
	for _, part := range parts {
		sum += part
	}
	if sum > limit.Num {
		return api.ErrFit
	}
	for k, item := range l {
		if shareOf(item).Cmp(exact(rat(parts[k], limit.Den))) > 0 {
			return api.ErrRule
		}
	}
	return api.OK
}

// enough are the smallest parts of a limit that the shares keep to, if a limit can have them.
func enough(l items, den int) ([]int, bool) {
	var parts []int
	for _, item := range l {
		share := short(shareOf(item))
		part := (share.Num*den + share.Den - 1) / share.Den
		if part > api.MaxLimit {
			return nil, false
		}
		parts = append(parts, part)
	}
	return parts, true
}

// someParts are parts that are enough, with one of them a little less or more.
func someParts(r *rand.Rand, l items, den int) [][]int {
	all := [][]int{make([]int, len(l))}
	parts, ok := enough(l, den)
	if !ok || len(l) == 0 {
		return all
	}
	all = append(all, parts)
	for _, by := range []int{-1, 1} {
		other := slices.Clone(parts)
		k := r.Intn(len(l))
		other[k] = min(max(other[k]+by, 0), api.MaxLimit)
		all = append(all, other)
	}
	return all
}

// TestAllow is of P8.4: Allow for limits about as great as the parts, and its consequence, that the budget closes if Allow returns OK.
func TestAllow(t *testing.T) {
	r := rand.New(rand.NewSource(4))
	counts := map[api.Errno]int{}
	for _, l := range someBudgets() {
		for _, den := range []int{1, 7, 10, 60, 2520, 20000, api.MaxLimit} {
			for _, parts := range someParts(r, l, den) {
				sum := 0
				for _, part := range parts {
					sum += part
				}
				for _, num := range []int{sum - 1, sum, sum + 1, api.MaxLimit} {
					limit := rat(min(max(num, 0), api.MaxLimit), den)
					got, want := budget.Allow(l, limit, parts), allowed(l, limit, parts)
					if got != want {
						t.Errorf("Allow(%v, %v, %v) = %v, want %v", l, limit, parts, got, want)
					}
					counts[got]++
					if got == api.OK && !must[bool](t)(budget.Closes(l, limit)) {
						t.Errorf("%v is allowed by %v of %v, and does not close", l, parts, limit)
					}
				}
			}
		}
	}
	if counts[api.OK] < 500 || counts[api.ErrFit] < 500 || counts[api.ErrRule] < 500 {
		t.Error(counts)
	}
}

// TestParts is of P8.4: the errors of Allow, each before the next.
func TestParts(t *testing.T) {
	for _, x := range []struct {
		l     items
		limit api.Rat
		parts []int
		want  api.Errno
	}{
		{example(), rat(9, 20), []int{4, 5}, api.OK},
		{example(), rat(18, 40), []int{8, 10}, api.OK},
		{example(), rat(20, 20), []int{15, 5}, api.OK},
		{example(), rat(9, 20), []int{5, 4}, api.ErrRule},
		{example(), rat(9, 20), []int{3, 6}, api.ErrRule},
		{example(), rat(9, 20), []int{4, 6}, api.ErrFit},
		{example(), rat(0, 1), []int{0, 0}, api.ErrRule},
		{example(), rat(0, 1), []int{0, 1}, api.ErrFit},
		{example(), rat(8, 20), []int{4, 5}, api.ErrFit},
		{example(), rat(8, 20), []int{9, 0}, api.ErrFit},
		{example(), rat(0, 1), []int{1000000, 1000000}, api.ErrFit},
		{example(), rat(1000000, 1), []int{1000000, 1}, api.ErrFit},
		{example(), rat(1000000, 1), []int{999999, 1}, api.OK},
		{example(), rat(1000000, 1), []int{1000000, 0}, api.ErrRule},
		{example(), rat(1000000, 1), []int{1000001, 0}, api.ErrArg},
		{example(), rat(0, 1), []int{-1, 1}, api.ErrArg},
		{example(), rat(0, 1), []int{1, -1}, api.ErrArg},
		{example(), rat(0, 1), []int{math.MaxInt, 1}, api.ErrArg},
		{example(), rat(0, 1), []int{math.MaxInt, math.MaxInt}, api.ErrArg},
		{example(), rat(0, 1), []int{math.MinInt, math.MinInt}, api.ErrArg},
		{example(), rat(9, 20), nil, api.ErrArg},
		{example(), rat(9, 20), []int{9}, api.ErrArg},
		{example(), rat(9, 20), []int{4, 5, 0}, api.ErrArg},
		{nil, rat(0, 1), nil, api.OK},
		{nil, rat(5, 3), []int{}, api.OK},
		{nil, rat(5, 3), []int{0}, api.ErrArg},
		{items{use(1, 0, 9)}, rat(0, 9), []int{0}, api.OK},
		{items{use(1, 1, 10)}, rat(99999, 1000000), []int{99999}, api.ErrRule},
		{items{use(1, 1, 10)}, rat(100000, 1000000), []int{100000}, api.OK},
	} {
		if got := budget.Allow(x.l, x.limit, x.parts); got != x.want {
			t.Errorf("Allow(%v, %v, %v) = %v, want %v", x.l, x.limit, x.parts, got, x.want)
		}
	}
}
