package drift_test

import (
	"testing"

	"quadrupole/api"
	"quadrupole/drift"
)

// firstClash is Clash by the words of the chapter: two readings clash if they alone do not agree.
func firstClash(s sample) pair {
	for i := range s.l {
		for j := i + 1; j < len(s.l); j++ {
			if !agrees(readings{s.l[i], s.l[j]}, s.rate) {
				return pair{[2]int{i, j}, true}
			}
		}
	}
	return pair{}
}

// TestAgreeAndClash is of P6.2 and S6: readings agree exactly if no two of them clash.
func TestAgreeAndClash(t *testing.T) {
	agreed, clashed := 0, map[[2]int]bool{}
	for i, s := range samples() {
		if i%5 != 0 && len(s.l) < 4 {
			continue
		}
		want := agrees(s.l, s.rate)
		if got := must[bool](t)(drift.Agree(s.l, s.rate)); got != want {
			t.Fatalf("Agree(%v) = %v", s, got)
		}
		first := firstClash(s)
		if first.is == want {
			t.Fatalf("%v: agree %v, and clash %v", s, want, first)
		}
		if got := mustBeTwo(t)(drift.Clash(s.l, s.rate)); got != first {
			t.Fatalf("Clash(%v) = %v, want %v", s, got, first)
		}
		if want {
			agreed++
		}
		clashed[first.value] = true
	}
	if agreed < 300 || len(clashed) < 15 {
		t.Error(agreed, len(clashed))
	}
}

// TestCheckClash is of P6.2: all pairs, in any order, with the consequence that tells when two clash.
func TestCheckClash(t *testing.T) {
	clashed := 0
	for i, s := range samples() {
		if i%20 != 0 && len(s.l) < 4 {
			continue
		}
		for i, r := range s.l {
			for j, o := range s.l {
				want := api.ErrProof
				if i != j && !agrees(readings{s.l[min(i, j)], s.l[max(i, j)]}, s.rate) {
					want = api.OK
					clashed++
				}
				if got := drift.CheckClash(s.l, s.rate, i, j); got != want {
					t.Fatalf("CheckClash(%v, %d, %d) = %v, want %v", s, i, j, got, want)
				}
				change := s.rate * max(r.Time-o.Time, o.Time-r.Time)
				if (want == api.OK) != (i != j && (r.Low > o.High+change || o.Low > r.High+change)) {
					t.Fatalf("CheckClash(%v, %d, %d) = %v", s, i, j, want)
				}
			}
		}
	}
	if clashed < 500 {
		t.Error(clashed)
	}
}

// TestClashOfSome is of P6.2: few readings, and the edges of rates, times and numbers.
func TestClashOfSome(t *testing.T) {
	none := pair{}
	of := func(i, j int) pair { return pair{[2]int{i, j}, true} }
	for i, c := range []struct {
		l    readings
		rate int
		want pair
	}{
		{two(), 1, of(0, 1)},
		{two(), 2, none},
		{two(), 9, none},
		{two(), 0, of(0, 1)},
		{one(), 0, none},
		{readings{reading(0, 0, 0), reading(1, 9, 9)}, 9, none},
		{readings{reading(0, 0, 0), reading(1, 10, 10)}, 9, of(0, 1)},
		{readings{reading(0, 0, 0), reading(1, -9, -9)}, 9, none},
		{readings{reading(0, 0, 0), reading(1, -10, -10)}, 9, of(0, 1)},
		{readings{reading(0, 0, 0), reading(1000, 0, 0)}, 0, none},
		{readings{reading(0, 0, 0), reading(1000, 1, 1)}, 0, of(0, 1)},
		{readings{reading(0, -1000, -1000), reading(1000, 1000, 1000)}, 2, none},
		{readings{reading(0, -1000, -1000), reading(999, 1000, 1000)}, 2, of(0, 1)},
		{readings{reading(0, -1000, -1000), reading(1, 1000, 1000)}, 9, of(0, 1)},
		{readings{reading(0, 1000, 1000), reading(222, -1000, -1000)}, 9, of(0, 1)},
		{readings{reading(0, 1000, 1000), reading(223, -1000, -1000)}, 9, none},
		{readings{reading(0, -1000, 1000), reading(1, 7, 7), reading(2, -1000, 1000), reading(3, 6, 6)}, 0, of(1, 3)},
		{readings{reading(0, 0, 5), reading(1, 5, 9), reading(2, 9, 9), reading(3, 2, 3)}, 0, of(0, 2)},
		{readings{reading(0, 0, 5), reading(1, 0, 9), reading(2, 0, 9), reading(3, 6, 6)}, 0, of(0, 3)},
	} {
		if got := mustBeTwo(t)(drift.Clash(c.l, c.rate)); got != c.want {
			t.Errorf("%d: Clash is %v, want %v", i, got, c.want)
		}
		if got := must[bool](t)(drift.Agree(c.l, c.rate)); got == c.want.is {
			t.Errorf("%d: Agree is %v", i, got)
		}
	}
}
