package drift_test

import (
	"testing"

	"quadrupole/api"
	"quadrupole/drift"
)

// slowestOf is Slowest by the words of the chapter.
func slowestOf(l readings) mayBe[int] {
	for rate := range api.MaxRate + 1 {
		if agrees(l, rate) {
			return mayBe[int]{rate, true}
		}
	}
	return mayBe[int]{}
}

// steepestOf is Steepest by the words of the chapter.
func steepestOf(l readings) api.Rat {
	num, den := 0, 1
	for i := range l {
		for j := range l {
			far := max(l[i].Time-l[j].Time, l[j].Time-l[i].Time)
			if change := l[i].Low - l[j].High; i != j && change*den > num*far {
				num, den = change, far
			}
		}
	}
	for d := den; d > 1; d-- {
		if num%d == 0 && den%d == 0 {
			num, den = num/d, den/d
		}
	}
	return api.Rat{Num: num, Den: den}
}

// TestSlowestAndSteepest is of P6.3, with the consequence that Slowest is Steepest rounded up, if this is at most MaxRate.
func TestSlowestAndSteepest(t *testing.T) {
	slow, fractions := map[mayBe[int]]int{}, 0
	for i, s := range samples() {
		if s.rate != 0 && len(s.l) < 4 || len(s.l) == 3 && i%4 != 0 {
			continue
		}
		got, want := mustBe[int](t)(drift.Slowest(s.l)), slowestOf(s.l)
		if got != want {
			t.Fatalf("Slowest(%v) = %v, want %v", s.l, got, want)
		}
		slow[got]++
		steepest := must[api.Rat](t)(drift.Steepest(s.l))
		if want := steepestOf(s.l); steepest != want {
			t.Fatalf("Steepest(%v) = %v, want %v", s.l, steepest, want)
		}
		if steepest.Den > 1 {
			fractions++
		}
		up := (steepest.Num + steepest.Den - 1) / steepest.Den
		if got.is != (up <= api.MaxRate) || got.is && got.value != up {
			t.Fatalf("of %v: Slowest %v, and Steepest %v", s.l, got, steepest)
		}
	}
	if len(slow) != api.MaxRate+2 || fractions < 200 {
		t.Error(slow, fractions)
	}
}

// TestRatesOfSome is of P6.3: few readings, and the edges of rates, times and numbers.
func TestRatesOfSome(t *testing.T) {
	rate := func(x int) mayBe[int] { return mayBe[int]{x, true} }
	none := mayBe[int]{}
	for i, c := range []struct {
		l        readings
		slowest  mayBe[int]
		num, den int
	}{
		{two(), rate(2), 2, 1},
		{one(), rate(0), 0, 1},
		{readings{reading(0, 0, 5), reading(1, 5, 6)}, rate(0), 0, 1},
		{readings{reading(0, 0, 5), reading(1, 3, 6)}, rate(0), 0, 1},
		{readings{reading(0, 0, 0), reading(1, 9, 9)}, rate(9), 9, 1},
		{readings{reading(0, 0, 0), reading(1, 10, 10)}, none, 10, 1},
		{readings{reading(0, 0, 0), reading(2, 18, 18)}, rate(9), 9, 1},
		{readings{reading(0, 0, 0), reading(2, 19, 20)}, none, 19, 2},
		{readings{reading(0, 0, 0), reading(2, -17, -17)}, rate(9), 17, 2},
		{readings{reading(0, 0, 0), reading(3, 1, 1)}, rate(1), 1, 3},
		{readings{reading(0, 0, 0), reading(6, 4, 4)}, rate(1), 2, 3},
		{readings{reading(0, 0, 0), reading(1000, 1, 1)}, rate(1), 1, 1000},
		{readings{reading(0, -1000, -1000), reading(1, 1000, 1000)}, none, 2000, 1},
		{readings{reading(0, 1000, 1000), reading(1, -1000, -1000)}, none, 2000, 1},
		{readings{reading(0, -1000, -1000), reading(999, 1000, 1000)}, rate(3), 2000, 999},
		{readings{reading(0, 0, 0), reading(1, 1, 1), reading(3, 6, 6), reading(9, 10, 10)}, rate(3), 5, 2},
		{readings{reading(0, 9, 9), reading(5, -1000, 1000), reading(6, 5, 5), reading(8, 4, 4)}, rate(1), 2, 3},
	} {
		if got := mustBe[int](t)(drift.Slowest(c.l)); got != c.slowest {
			t.Errorf("%d: Slowest is %v, want %v", i, got, c.slowest)
		}
		if got := must[api.Rat](t)(drift.Steepest(c.l)); got != (api.Rat{Num: c.num, Den: c.den}) {
			t.Errorf("%d: Steepest is %v, want %d/%d", i, got, c.num, c.den)
		}
	}
}
