package drift_test

import (
	"slices"
	"testing"

	"quadrupole/api"
	"quadrupole/drift"
)

// fewSamples are some of the samples: what goes through all times takes long.
func fewSamples() []sample {
	var few []sample
	for i, s := range shortSamples() {
		if i%7 == 0 {
			few = append(few, s)
		}
	}
	return append(few, longSamples()...)
}

// TestBoundsAndWidth is of P6.4: against the search step by step, at all times of some samples.
func TestBoundsAndWidth(t *testing.T) {
	agreed := 0
	for i, s := range fewSamples() {
		spans, agree := spansOf(s)
		if agree {
			agreed++
		}
		for time := i % 11; time <= 2*api.MaxValue; time += 1 + i%11 {
			bounds, width := pair{}, mayBe[int]{}
			if agree {
				bounds = pair{[2]int{spans[time].low, spans[time].high}, true}
				width = mayBe[int]{spans[time].high - spans[time].low, true}
			}
			if got := mustBeTwo(t)(drift.Bounds(s.l, s.rate, time)); got != bounds {
				t.Fatalf("Bounds(%v, %d) = %v, want %v", s, time, got, bounds)
			}
			if got := mustBe[int](t)(drift.Width(s.l, s.rate, time)); got != width {
				t.Fatalf("Width(%v, %d) = %v, want %v", s, time, got, width)
			}
		}
	}
	if agreed < 300 {
		t.Error(agreed)
	}
}

// TestBoundsOfSome is of P6.4: few readings, and the edges of rates, times and numbers.
func TestBoundsOfSome(t *testing.T) {
	last := readings{reading(1000, -1000, 1000)}
	high := readings{reading(0, 1000, 1000), reading(1000, 1000, 1000)}
	for i, c := range []struct {
		l         readings
		rate      int
		time      int
		low, high int
		is        bool
	}{
		{two(), 2, 2, 5, 5, true},
		{two(), 2, 0, 1, 1, true},
		{two(), 2, 4, 9, 9, true},
		{two(), 2, 5, 7, 11, true},
		{two(), 3, 0, 0, 1, true},
		{two(), 3, 2, 3, 7, true},
		{two(), 1, 2, 0, 0, false},
		{two(), 1, 2000, 0, 0, false},
		{one(), 1, 5, -2, 4, true},
		{one(), 1, 3, 0, 2, true},
		{one(), 1, 0, -3, 5, true},
		{one(), 0, 0, 0, 2, true},
		{one(), 0, 2000, 0, 2, true},
		{last, 9, 0, -10000, 10000, true},
		{last, 9, 2000, -10000, 10000, true},
		{readings{reading(0, -1000, 1000)}, 9, 2000, -19000, 19000, true},
		{high, 9, 500, -3500, 5500, true},
		{high, 0, 500, 1000, 1000, true},
	} {
		if got := mustBeTwo(t)(drift.Bounds(c.l, c.rate, c.time)); got != (pair{[2]int{c.low, c.high}, c.is}) {
			t.Errorf("%d: Bounds is %v", i, got)
		}
		if got := mustBe[int](t)(drift.Width(c.l, c.rate, c.time)); got != (mayBe[int]{c.high - c.low, c.is}) {
			t.Errorf("%d: Width is %v", i, got)
		}
	}
}

// tightOf is Tight by the words of the chapter.
func tightOf(s sample) mayBe[readings] {
	spans, agree := spansOf(s)
	if !agree {
		return mayBe[readings]{}
	}
	var tight readings
	for _, r := range s.l {
		tight = append(tight, reading(r.Time, spans[r.Time].low, spans[r.Time].high))
	}
	return mayBe[readings]{tight, true}
}

// TestTight is of P6.4, with the consequence that Tight of Tight is Tight.
func TestTight(t *testing.T) {
	tighter := 0
	for _, s := range fewSamples() {
		got, want := mustBe[readings](t)(drift.Tight(s.l, s.rate)), tightOf(s)
		if got.is != want.is || !slices.Equal(got.value, want.value) {
			t.Fatalf("Tight(%v) = %v, want %v", s, got, want)
		}
		if !got.is {
			continue
		}
		if !slices.Equal(got.value, s.l) {
			tighter++
		}
		if again := mustBe[readings](t)(drift.Tight(got.value, s.rate)); !again.is || !slices.Equal(again.value, got.value) {
			t.Fatalf("Tight(%v) = %v, and Tight of it %v", s, got, again)
		}
	}
	if tighter < 200 {
		t.Error(tighter)
	}
}

// untilOf is Until by the words of the chapter.
func untilOf(s sample, spans []span, width int) mayBe[int] {
	until := mayBe[int]{}
	for time := s.l[len(s.l)-1].Time; spans != nil && time <= 2*api.MaxValue; time++ {
		if spans[time].high-spans[time].low <= width {
			until = mayBe[int]{time, true}
		}
	}
	return until
}

// TestUntil is of P6.5: with widths of the bounds, and those beside them.
func TestUntil(t *testing.T) {
	until := map[int]bool{}
	for i, s := range fewSamples() {
		spans, agree := spansOf(s)
		widths := []int{0, i % 100, 100 * api.MaxValue}
		from := s.l[len(s.l)-1].Time
		for time := from; agree && time < len(spans); time += 1 + time/3 {
			width := spans[time].high - spans[time].low
			widths = append(widths, max(0, width-1), width, width+1)
		}
		for _, width := range widths {
			got, want := mustBe[int](t)(drift.Until(s.l, s.rate, width)), untilOf(s, spans, width)
			if got != want {
				t.Fatalf("Until(%v, %d) = %v, want %v", s, width, got, want)
			}
			if got.is {
				until[got.value-from] = true
			}
		}
	}
	if len(until) < 100 {
		t.Error(len(until))
	}
}

// TestUntilOfSome is of P6.5: few readings, and the edges of rates, times and widths.
func TestUntilOfSome(t *testing.T) {
	wide := readings{reading(0, -1000, 1000)}
	for i, c := range []struct {
		l           readings
		rate, width int
		time        int
		is          bool
	}{
		{one(), 1, 4, 4, true},
		{one(), 1, 3, 3, true},
		{one(), 1, 2, 3, true},
		{one(), 1, 1, 0, false},
		{one(), 1, 6, 5, true},
		{one(), 1, 2 + 2*1996, 1999, true},
		{one(), 1, 2 + 2*1997, 2000, true},
		{one(), 1, 2 + 2*1998, 2000, true},
		{one(), 0, 2, 2000, true},
		{one(), 0, 1, 0, false},
		{two(), 2, 0, 4, true},
		{two(), 2, 3, 4, true},
		{two(), 2, 4, 5, true},
		{two(), 1, 0, 0, false},
		{two(), 1, 100000, 0, false},
		{wide, 9, 1999, 0, false},
		{wide, 9, 2000, 0, true},
		{wide, 9, 38000 - 1, 1999, true},
		{wide, 9, 38000, 2000, true},
		{wide, 9, 100000, 2000, true},
		{readings{reading(1000, 7, 7)}, 9, 0, 1000, true},
		{readings{reading(1000, 7, 7)}, 9, 18 * 77, 1077, true},
	} {
		if got := mustBe[int](t)(drift.Until(c.l, c.rate, c.width)); got != (mayBe[int]{c.time, c.is}) {
			t.Errorf("%d: Until is %v", i, got)
		}
	}
}

// needlessOf is Needless by the words of the chapter.
func needlessOf(s sample) []int {
	tight := tightOf(s)
	if len(s.l) == 1 || !tight.is {
		return nil
	}
	var needless []int
	for k := range s.l {
		rest := tightOf(sample{leftOut(s.l, k), s.rate})
		if rest.is && slices.Equal(rest.value, leftOut(tight.value, k)) {
			needless = append(needless, k)
		}
	}
	return needless
}

// leftOut is readings without the reading k.
func leftOut(l readings, k int) readings {
	var left readings
	for i, r := range l {
		if i != k {
			left = append(left, r)
		}
	}
	return left
}

// TestNeedless is of P6.6.
func TestNeedless(t *testing.T) {
	some, clash := 0, 0
	for _, s := range fewSamples() {
		got, want := must[[]int](t)(drift.Needless(s.l, s.rate)), needlessOf(s)
		if !slices.Equal(got, want) {
			t.Fatalf("Needless(%v) = %v, want %v", s, got, want)
		}
		if len(got) > 0 && len(got) < len(s.l) {
			some++
		}
		if !agrees(s.l, s.rate) {
			clash++
		}
	}
	if some < 100 || clash < 100 {
		t.Error(some, clash)
	}
}

// TestNeedlessOfSome is of P6.6.
func TestNeedlessOfSome(t *testing.T) {
	for i, c := range []struct {
		l    readings
		rate int
		want []int
	}{
		{one(), 0, nil},
		{two(), 1, nil},
		{two(), 2, nil},
		{two(), 3, []int{0, 1}},
		{two(), 9, []int{0, 1}},
		{readings{reading(0, 0, 3), reading(4, 2, 9)}, 1, []int{1}},
		{readings{reading(0, 0, 3), reading(4, 2, 6)}, 1, []int{0, 1}},
		{readings{reading(0, 2, 9), reading(4, 0, 3)}, 1, []int{0}},
		{readings{reading(0, 0, 0), reading(4, 0, 4)}, 1, []int{0, 1}},
		{readings{reading(0, 0, 0), reading(4, 0, 5)}, 1, []int{1}},
		{readings{reading(0, 1, 1), reading(1, 1, 1), reading(2, 1, 1)}, 0, []int{0, 1, 2}},
		{readings{reading(0, 1, 1), reading(1, 0, 2), reading(2, 1, 1)}, 0, []int{0, 1, 2}},
		{readings{reading(0, 1, 1), reading(1, 0, 2), reading(2, 0, 1)}, 0, []int{1, 2}},
		{readings{reading(0, 0, 1), reading(1, 0, 2), reading(2, 1, 2)}, 0, []int{1}},
		{readings{reading(0, 0, 1), reading(1, 0, 2), reading(2, 5, 5)}, 0, nil},
	} {
		if got := must[[]int](t)(drift.Needless(c.l, c.rate)); !slices.Equal(got, c.want) {
			t.Errorf("%d: Needless is %v, want %v", i, got, c.want)
		}
	}
}
