package drift_test

import (
	"math"
	"testing"

	"quadrupole/api"
	"quadrupole/drift"
)

// full is as many readings as there can be.
func full() readings {
	var l readings
	for k := range api.MaxReadings {
		l = append(l, reading(10*k, k, 2*k))
	}
	return l
}

// noReadings are no readings.
func noReadings() readings {
	all := readings{reading(-1, 0, 0), reading(1001, 0, 0), reading(5, 1, 0), reading(5, -1, -2), reading(5, 1000, -1000), reading(5, -1001, 0), reading(5, 0, 1001), reading(5, -1001, -1001), reading(5, 1001, 1001), reading(-1, 1, 0)}
	for _, x := range []int{math.MinInt, math.MaxInt} {
		all = append(all, reading(x, 0, 0), reading(5, x, 0), reading(5, 0, x), reading(5, x, x), reading(x, x, x), reading(5, x, -1-x))
	}
	return all
}

// TestReadings is of P6.1: what is a reading, and what is none, at each place of a list.
func TestReadings(t *testing.T) {
	for _, r := range []api.Reading{{}, reading(0, -1000, 1000), reading(1000, -1000, -1000), reading(1000, 1000, 1000), reading(999, -5, -4), reading(7, -1000, 0), reading(7, 0, 1000)} {
		if e := drift.Validate(readings{r}); e != api.OK {
			t.Errorf("%v: %v", r, e)
		}
	}
	for _, r := range noReadings() {
		if e := drift.Validate(readings{r}); e != api.ErrArg {
			t.Errorf("%v: %v", r, e)
		}
		timely := r.Time == 5 // the Time is not what is wrong with it
		for k := range full() {
			l := full()
			if timely {
				r.Time = l[k].Time
			}
			l[k] = r
			if e := drift.Validate(l); e != api.ErrArg {
				t.Errorf("%v: %v", l, e)
			}
		}
	}
}

// TestTimesAscend is of P6.1: Times that are equal or descend.
func TestTimesAscend(t *testing.T) {
	for i, c := range []struct {
		l    readings
		want api.Errno
	}{
		{full(), api.OK},
		{readings{reading(0, 0, 0), reading(1, 0, 0)}, api.OK},
		{readings{reading(999, 3, 3), reading(1000, 0, 0)}, api.OK},
		{readings{reading(0, 0, 0), reading(1000, 0, 0)}, api.OK},
		{readings{reading(0, 0, 0), reading(0, 1, 1)}, api.ErrArg},
		{readings{reading(1000, 0, 0), reading(1000, 1, 1)}, api.ErrArg},
		{readings{reading(1, 0, 0), reading(0, 1, 1)}, api.ErrArg},
		{readings{reading(0, 0, 0), reading(2, 0, 0), reading(1, 0, 0)}, api.ErrArg},
		{readings{reading(2, 0, 0), reading(1, 0, 0), reading(3, 0, 0)}, api.ErrArg},
		{nil, api.ErrLarge},
		{readings{}, api.ErrLarge},
		{append(full(), reading(80, 0, 0)), api.ErrLarge},
		{append(full(), reading(1, 0, 0)), api.ErrLarge},
		{append(full(), reading(-1, 0, 0)), api.ErrLarge},
	} {
		if e := drift.Validate(c.l); e != c.want {
			t.Errorf("%d: %v, want %v", i, e, c.want)
		}
	}
	for k := range api.MaxReadings - 1 {
		l := full()
		l[k+1].Time = l[k].Time
		if e := drift.Validate(l); e != api.ErrArg {
			t.Errorf("%v: %v", l, e)
		}
		l[k+1].Time--
		if e := drift.Validate(l); e != api.ErrArg {
			t.Errorf("%v: %v", l, e)
		}
	}
}

// outcome is the error of a call, and whether all its other results are zero values.
type outcome struct {
	name  string
	e     api.Errno
	empty bool
}

// others are the arguments beside the readings.
type others struct {
	rate, time, width, i, j, k, by int
	track                          []int
}

// callsOf are the functions that are given readings and no rate.
func callsOf(l readings, o others) []outcome {
	slowest, is, e1 := drift.Slowest(l)
	steepest, e2 := drift.Steepest(l)
	turned, e3 := drift.Turn(l)
	shifted, e4 := drift.Shift(l, o.by)
	opposite, e5 := drift.Opposite(l)
	without, e6 := drift.Without(l, o.k)
	return []outcome{
		{"Validate", drift.Validate(l), true},
		{"Slowest", e1, slowest == 0 && !is},
		{"Steepest", e2, steepest == api.Rat{}},
		{"Turn", e3, len(turned) == 0},
		{"Shift", e4, len(shifted) == 0},
		{"Opposite", e5, len(opposite) == 0},
		{"Without", e6, len(without) == 0},
	}
}

// callsBy are the functions that are given readings and a rate.
func callsBy(l readings, o others) []outcome {
	agree, e1 := drift.Agree(l, o.rate)
	i, j, clash, e2 := drift.Clash(l, o.rate)
	low, high, bound, e3 := drift.Bounds(l, o.rate, o.time)
	tight, is, e4 := drift.Tight(l, o.rate)
	track, kept, e5 := drift.Track(l, o.rate)
	width, wide, e6 := drift.Width(l, o.rate, o.time)
	until, ever, e7 := drift.Until(l, o.rate, o.width)
	needless, e8 := drift.Needless(l, o.rate)
	return []outcome{
		{"Agree", e1, !agree},
		{"Clash", e2, i == 0 && j == 0 && !clash},
		{"CheckClash", drift.CheckClash(l, o.rate, o.i, o.j), true},
		{"Bounds", e3, low == 0 && high == 0 && !bound},
		{"Tight", e4, len(tight) == 0 && !is},
		{"Track", e5, len(track) == 0 && !kept},
		{"CheckTrack", drift.CheckTrack(l, o.rate, o.track), true},
		{"Width", e6, width == 0 && !wide},
		{"Until", e7, until == 0 && !ever},
		{"Needless", e8, len(needless) == 0},
	}
}

// TestReadingErrorsComeFirst is of P6.1 with R2 and R3.
func TestReadingErrorsComeFirst(t *testing.T) {
	all := map[string]api.Errno{}
	for _, c := range []struct {
		l    readings
		want api.Errno
	}{
		{nil, api.ErrLarge},
		{append(full(), reading(99, 0, 0)), api.ErrLarge},
		{make(readings, 1000), api.ErrLarge},
		{readings{reading(0, 1, 0)}, api.ErrArg},
		{make(readings, api.MaxReadings), api.ErrArg},
		{readings{reading(4, 0, 1), reading(0, 9, 10)}, api.ErrArg},
		{readings{reading(0, 0, 1), reading(4, 9, 10), reading(1001, 0, 0)}, api.ErrArg},
	} {
		for i, o := range []others{
			{},
			{rate: 1, i: 0, j: 1},
			{rate: 9, time: 2000, width: 100000, i: 1, j: 0, k: 1, by: 1},
			{rate: 10, time: 2001, width: 100001, i: 8, j: 8, k: 8, by: 1001, track: []int{1001}},
			{rate: -1, time: -1, width: -1, i: -1, j: -1, k: -1, by: -1},
			{rate: math.MaxInt, time: math.MinInt, width: math.MinInt, i: math.MinInt, j: math.MaxInt, k: math.MinInt, by: math.MaxInt},
		} {
			for _, got := range append(callsOf(c.l, o), callsBy(c.l, o)...) {
				all[got.name] = c.want
				if got.e != c.want || !got.empty {
					t.Errorf("%d: %s: error %v, want %v; other results are zero values: %v", i, got.name, got.e, c.want, got.empty)
				}
			}
		}
	}
	if len(all) != 17 {
		t.Errorf("%d functions with readings, want 17", len(all))
	}
}

// TestRateErrors is of P6.1: the rate is not from 0 to MaxRate.
func TestRateErrors(t *testing.T) {
	track := []int{1, 3, 5, 7, 9}
	for _, rate := range []int{-1, 10, 1000, math.MinInt, math.MaxInt, math.MaxInt / 4, math.MinInt / 4} {
		for _, o := range []others{{rate: rate, j: 1, track: track}, {rate: rate, time: -1, width: -1}, {rate: rate, time: 2001, width: 100001, i: 1, track: []int{0}}} {
			for _, got := range callsBy(two(), o) {
				if got.e != api.ErrArg || !got.empty {
					t.Errorf("rate %d: %s: error %v; other results are zero values: %v", rate, got.name, got.e, got.empty)
				}
			}
		}
	}
	for rate := range api.MaxRate + 1 {
		for _, got := range callsBy(two(), others{rate: rate, j: 1, track: track}) {
			want := api.OK
			if rate < 2 && got.name == "CheckTrack" {
				want = api.ErrRule
			}
			if rate >= 2 && got.name == "CheckClash" {
				want = api.ErrProof
			}
			if got.e != want {
				t.Errorf("rate %d: %s: error %v, want %v", rate, got.name, got.e, want)
			}
		}
	}
}

// TestTimeAndWidthErrors is of P6.1: the time is not from 0 to 2*MaxValue, or the width not from 0 to 100*MaxValue, also if the readings do not agree.
func TestTimeAndWidthErrors(t *testing.T) {
	for _, l := range []readings{one(), two()} {
		for time, want := range map[int]api.Errno{-1: api.ErrArg, 0: api.OK, 1000: api.OK, 1001: api.OK, 2000: api.OK, 2001: api.ErrArg, math.MinInt: api.ErrArg, math.MaxInt: api.ErrArg} {
			low, high, is, e := drift.Bounds(l, 1, time)
			width, wide, f := drift.Width(l, 1, time)
			if e != want || f != want {
				t.Errorf("time %d: %v, %v, want %v", time, e, f, want)
			}
			if want != api.OK && (low != 0 || high != 0 || is || width != 0 || wide) {
				t.Errorf("time %d: %d, %d, %v; %d, %v", time, low, high, is, width, wide)
			}
		}
		for width, want := range map[int]api.Errno{-1: api.ErrArg, 0: api.OK, 1000: api.OK, 100000: api.OK, 100001: api.ErrArg, math.MinInt: api.ErrArg, math.MaxInt: api.ErrArg} {
			time, is, e := drift.Until(l, 1, width)
			if e != want || want != api.OK && (time != 0 || is) {
				t.Errorf("width %d: %d, %v, %v, want %v", width, time, is, e, want)
			}
		}
	}
}

// TestNumberErrors is of P6.1: there is no reading i, j or k; this comes before the error of a rate.
func TestNumberErrors(t *testing.T) {
	for _, x := range []int{-1, 2, 7, 8, math.MinInt, math.MaxInt} {
		for _, rate := range []int{-1, 0, 1, 9, 10, math.MaxInt} {
			for _, p := range [][2]int{{x, 0}, {0, x}, {x, 1}, {1, x}, {x, x}, {x, -1 - x}} {
				if e := drift.CheckClash(two(), rate, p[0], p[1]); e != api.ErrNone {
					t.Errorf("CheckClash of %v by the rate %d: %v", p, rate, e)
				}
			}
		}
		for _, l := range []readings{one(), two()} {
			if got, e := drift.Without(l, x); len(got) != 0 || e != api.ErrNone {
				t.Errorf("Without %d: %v, %v", x, got, e)
			}
		}
	}
	if got, e := drift.Without(one(), 1); len(got) != 0 || e != api.ErrNone {
		t.Errorf("Without 1 of one reading: %v, %v", got, e)
	}
	if e := drift.CheckClash(full(), 0, 7, 0); e != api.OK {
		t.Errorf("CheckClash of the last reading: %v", e)
	}
}
