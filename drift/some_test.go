package drift_test

import (
	"math/rand"
	"slices"
	"testing"

	"quadrupole/api"
	"quadrupole/drift"
)

type readings = []api.Reading

func reading(time, low, high int) api.Reading {
	return api.Reading{Time: time, Low: low, High: high}
}

// two is the readings of the chapter's first example, one is that of its third one.
func two() readings { return readings{reading(0, 0, 1), reading(4, 9, 10)} }
func one() readings { return readings{reading(3, 0, 2)} }

// everyList lists the lists with a reading at each of the times, with numbers from first to last.
func everyList(times []int, first, last int) []readings {
	if len(times) == 0 {
		return []readings{nil}
	}
	end := len(times) - 1
	var all []readings
	for _, l := range everyList(times[:end], first, last) {
		for low := first; low <= last; low++ {
			for high := low; high <= last; high++ {
				all = append(all, append(slices.Clone(l), reading(times[end], low, high)))
			}
		}
	}
	return all
}

// sample is a list of readings with a rate.
type sample struct {
	l    readings
	rate int
}

// shortSamples are all lists of few readings with few times and numbers, with each of some rates.
func shortSamples() []sample {
	var all []sample
	for _, times := range [][]int{{0}, {2}, {0, 1}, {1, 3}, {0, 3}} {
		all = append(all, withRates(everyList(times, -2, 3), 0, 1, 2, 3)...)
	}
	return append(all, withRates(everyList([]int{0, 1, 3}, -1, 2), 0, 1, 2)...)
}

// withRates are the lists with each of the rates.
func withRates(lists []readings, rates ...int) []sample {
	var all []sample
	for _, l := range lists {
		for _, rate := range rates {
			all = append(all, sample{l, rate})
		}
	}
	return all
}

// someTimes are so many times from 0 to last, in ascending order.
func someTimes(r *rand.Rand, count, last int) []int {
	times := r.Perm(last + 1)[:count]
	slices.Sort(times)
	return times
}

// walk is a track of so many times by a rate, with numbers of readings.
func walk(r *rand.Rand, count, rate int) []int {
	x := r.Intn(2*api.MaxValue+1) - api.MaxValue
	track := make([]int, count)
	for at := range track {
		track[at] = x
		x += r.Intn(2*rate+1) - rate
		x = min(max(x, -api.MaxValue), api.MaxValue)
	}
	return track
}

// around is a reading with a number and others that are at most so far from it.
func around(r *rand.Rand, time, x, far int) api.Reading {
	return reading(time, max(x-r.Intn(far+1), -api.MaxValue), min(x+r.Intn(far+1), api.MaxValue))
}

// longSamples are lists of any length, the same ones each time: readings of tracks, where no two clash, and readings of which one is moved away.
func longSamples() []sample {
	var all []sample
	r := rand.New(rand.NewSource(6))
	for count := 1; count <= api.MaxReadings; count++ {
		for _, last := range []int{9, 30, 200, api.MaxValue} {
			for rate := range api.MaxRate + 1 {
				track := walk(r, last+1, rate)
				var l readings
				for _, time := range someTimes(r, count, last) {
					l = append(l, around(r, time, track[time], r.Intn(1+rate*last/4)))
				}
				moved, k := slices.Clone(l), r.Intn(count)
				x := r.Intn(2*api.MaxValue+1) - api.MaxValue
				moved[k] = around(r, moved[k].Time, (x+9*track[moved[k].Time])/10, rate)
				all = append(all, sample{l, rate}, sample{moved, rate}, sample{l, max(0, rate-1)})
			}
		}
	}
	return all
}

func samples() []sample {
	return append(shortSamples(), longSamples()...)
}

// span is the numbers from low to high, and none if low is above high.
type span struct {
	low, high int
}

func (s span) and(o span) span {
	return span{max(s.low, o.low), min(s.high, o.high)}
}

func (s span) wider(rate int) span {
	return span{s.low - rate, s.high + rate}
}

// anything is more than a track that keeps readings can have at any time.
const anything = 1 << 30

// spansOf are the numbers that some track may have at the times from 0 to 2*MaxValue, step by step from the first time and from the last one; false if there is no track.
func spansOf(s sample) ([]span, bool) {
	at := make([]span, 2*api.MaxValue+1)
	for time := range at {
		at[time] = span{-anything, anything}
	}
	for _, r := range s.l {
		at[r.Time] = span{r.Low, r.High}
	}
	for time := 1; time < len(at); time++ {
		at[time] = at[time].and(at[time-1].wider(s.rate))
		if at[time].low > at[time].high {
			return nil, false
		}
	}
	for time := len(at) - 2; time >= 0; time-- {
		at[time] = at[time].and(at[time+1].wider(s.rate))
	}
	return at, true
}

// agrees reports whether readings agree, step by step.
func agrees(l readings, rate int) bool {
	_, agree := spansOf(sample{l, rate})
	return agree
}

// everyTrack lists the tracks that keep a rate and readings at the times from 0 to last, by the words of the chapter. Those that begin elsewhere than from -far to far are left out.
func everyTrack(s sample, last, far int) [][]int {
	var tracks [][]int
	for x := -far; x <= far; x++ {
		tracks = append(tracks, []int{x})
	}
	for time := range last + 1 {
		if time > 0 {
			tracks = longer(tracks, s.rate)
		}
		for _, r := range s.l {
			if r.Time == time {
				tracks = slices.DeleteFunc(tracks, func(track []int) bool { return track[time] < r.Low || track[time] > r.High })
			}
		}
	}
	return tracks
}

// longer lists the tracks with one number more.
func longer(tracks [][]int, rate int) [][]int {
	var all [][]int
	for _, track := range tracks {
		x := track[len(track)-1]
		for next := x - rate; next <= x+rate; next++ {
			all = append(all, append(slices.Clone(track), next))
		}
	}
	return all
}

// must returns the value of a call that gave no error.
func must[T any](t *testing.T) func(T, api.Errno) T {
	return func(value T, e api.Errno) T {
		t.Helper()
		if e != api.OK {
			t.Fatal(e)
		}
		return value
	}
}

// mayBe is the value of a call that reports whether there is one.
type mayBe[T any] struct {
	value T
	is    bool
}

// mustBe returns the value of a call that gave no error, and whether there is one.
func mustBe[T any](t *testing.T) func(T, bool, api.Errno) mayBe[T] {
	return func(value T, is bool, e api.Errno) mayBe[T] {
		t.Helper()
		if e != api.OK {
			t.Fatal(e)
		}
		return mayBe[T]{value, is}
	}
}

// pair is the outcome of a call that returns two numbers.
type pair = mayBe[[2]int]

// mustBeTwo returns the two numbers of a call that gave no error, and whether there are some.
func mustBeTwo(t *testing.T) func(int, int, bool, api.Errno) pair {
	return func(i, j int, is bool, e api.Errno) pair {
		t.Helper()
		if e != api.OK {
			t.Fatal(e)
		}
		return pair{[2]int{i, j}, is}
	}
}

// TestSpans checks the search step by step by the words of the chapter: with tracks that are listed.
func TestSpans(t *testing.T) {
	agreed := 0
	for i, s := range shortSamples() {
		if len(s.l) == 1 && i%3 != 0 || len(s.l) > 1 && i%17 != 0 {
			continue
		}
		last := 4
		tracks := everyTrack(s, last, 3+s.rate*2)
		spans, agree := spansOf(s)
		if agree != (len(tracks) > 0) {
			t.Fatalf("%v: %v, and there are %d tracks", s, agree, len(tracks))
		}
		if !agree {
			continue
		}
		agreed++
		for time := range last + 1 {
			wantSpan(t, s, tracks, time, spans[time])
		}
	}
	if agreed < 100 {
		t.Error(agreed)
	}
}

// wantSpan wants the numbers of tracks at a time to be all those of a span.
func wantSpan(t *testing.T, s sample, tracks [][]int, time int, want span) {
	t.Helper()
	var numbers []int
	for _, track := range tracks {
		numbers = append(numbers, track[time])
	}
	slices.Sort(numbers)
	numbers = slices.Compact(numbers)
	low, high := numbers[0], numbers[len(numbers)-1]
	if low != want.low || high != want.high || len(numbers) != high-low+1 {
		t.Fatalf("%v at the time %d: %v, and the tracks have %v", s, time, want, numbers)
	}
	if got := mustBeTwo(t)(drift.Bounds(s.l, s.rate, time)); got != (pair{[2]int{low, high}, true}) {
		t.Fatalf("Bounds of %v at the time %d: %v, and the tracks have %v", s, time, got, numbers)
	}
}
