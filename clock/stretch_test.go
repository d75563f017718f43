package clock_test

import (
	"slices"
	"testing"

	"quadrupole/api"
	"quadrupole/clock"
)

// fewSamples are some of the samples: what goes through all stretches takes long.
func fewSamples() []jobs {
	var few []jobs
	for i, l := range shortSamples() {
		if i < 10 || i%5 == 0 {
			few = append(few, l)
		}
	}
	return append(few, longSamples()...)
}

// TestDemand is of P5.4: the demands of all stretches, and which of them are crowded.
func TestDemand(t *testing.T) {
	crowded := 0
	for i, l := range fewSamples() {
		if i%4 != 0 {
			continue
		}
		for _, s := range everyStretch(l) {
			if got := must[int](t)(clock.Demand(l, s.a, s.b)); got != s.demand {
				t.Fatalf("Demand(%v, %d, %d) = %d, want %d", l, s.a, s.b, got, s.demand)
			}
			want := api.ErrProof
			if s.demand > s.b-s.a {
				want = api.OK
				crowded++
			}
			if e := clock.CheckCrowded(l, s.a, s.b); e != want {
				t.Fatalf("CheckCrowded(%v, %d, %d) = %v, want %v", l, s.a, s.b, e, want)
			}
		}
	}
	if crowded < 1000 {
		t.Error(crowded)
	}
}

// TestStretchesOfSome is of P5.4: few jobs, and the edges of stretches.
func TestStretchesOfSome(t *testing.T) {
	most := slices.Repeat(jobs{job(59, 60, 60)}, api.MaxJobs)
	for i, c := range []struct {
		l      jobs
		a, b   int
		demand int
		check  api.Errno
	}{
		{nil, 0, 1, 0, api.ErrProof},
		{nil, 0, 60, 0, api.ErrProof},
		{two(), 0, 3, 3, api.ErrProof},
		{three(), 0, 2, 2, api.ErrProof},
		{three(), 0, 3, 4, api.OK},
		{three(), 0, 4, 4, api.ErrProof},
		{three(), 1, 2, 1, api.ErrProof},
		{three(), 0, 1, 0, api.ErrProof},
		{three(), 1, 60, 1, api.ErrProof},
		{jobs{job(5, 7, 3)}, 5, 7, 3, api.OK},
		{jobs{job(5, 7, 3)}, 5, 8, 3, api.ErrProof},
		{jobs{job(5, 7, 3)}, 4, 7, 3, api.ErrProof},
		{jobs{job(5, 7, 3)}, 6, 7, 0, api.ErrProof},
		{jobs{job(5, 7, 3)}, 5, 6, 0, api.ErrProof},
		{most, 59, 60, 480, api.OK},
		{most, 0, 60, 480, api.OK},
		{most, 0, 59, 0, api.ErrProof},
	} {
		if got, e := clock.Demand(c.l, c.a, c.b); got != c.demand || e != api.OK {
			t.Errorf("%d: %d, %v, want %d", i, got, e, c.demand)
		}
		if e := clock.CheckCrowded(c.l, c.a, c.b); e != c.check {
			t.Errorf("%d: %v, want %v", i, e, c.check)
		}
	}
}

// spare are Crowded, Slack and Speed by the words of the chapter.
type spare struct {
	crowded mayBe[[2]int]
	slack   mayBe[int]
	speed   api.Rat
}

func spareOf(l jobs) spare {
	s := spare{speed: api.Rat{Num: 0, Den: 1}}
	for _, x := range everyStretch(l) {
		length := x.b - x.a
		if x.demand > length && !s.crowded.is {
			s.crowded = mayBe[[2]int]{[2]int{x.a, x.b}, true}
		}
		if x.demand != 0 && (!s.slack.is || length-x.demand < s.slack.value) {
			s.slack = mayBe[int]{length - x.demand, true}
		}
		if x.demand*s.speed.Den > s.speed.Num*length {
			s.speed = api.Rat{Num: x.demand, Den: length}
		}
	}
	for d := s.speed.Den; d > 1; d-- {
		if s.speed.Num%d == 0 && s.speed.Den%d == 0 {
			s.speed = api.Rat{Num: s.speed.Num / d, Den: s.speed.Den / d}
		}
	}
	return s
}

// theSpare are Crowded, Slack and Speed.
func theSpare(t *testing.T, l jobs) spare {
	t.Helper()
	a, b, is, e := clock.Crowded(l)
	if e != api.OK {
		t.Fatal(e)
	}
	return spare{mayBe[[2]int]{[2]int{a, b}, is}, mustBe[int](t)(clock.Slack(l)), must[api.Rat](t)(clock.Speed(l))}
}

// TestSpare is of P5.4 and S5: Crowded, Slack and Speed, and the consequence that each of them tells whether the jobs can be kept.
func TestSpare(t *testing.T) {
	for _, l := range fewSamples() {
		got := theSpare(t, l)
		if want := spareOf(l); got != want {
			t.Fatalf("Crowded, Slack and Speed of %v: %v, want %v", l, got, want)
		}
		if keep := can(l, 0); keep == got.crowded.is || keep != (got.slack.value >= 0) || keep != (got.speed.Num <= got.speed.Den) {
			t.Fatalf("Crowded, Slack and Speed of %v: %v; can be kept: %v", l, got, keep)
		}
		a, b := got.crowded.value[0], got.crowded.value[1]
		if e := clock.CheckCrowded(l, a, b); got.crowded.is && e != api.OK {
			t.Fatalf("CheckCrowded(%v, %d, %d) of Crowded: %v", l, a, b, e)
		}
	}
}

// TestSpareOfSome is of P5.4.
func TestSpareOfSome(t *testing.T) {
	none := mayBe[[2]int]{}
	from := func(a, b int) mayBe[[2]int] { return mayBe[[2]int]{[2]int{a, b}, true} }
	for i, c := range []struct {
		l    jobs
		want spare
	}{
		{nil, spare{none, mayBe[int]{}, api.Rat{Num: 0, Den: 1}}},
		{two(), spare{none, mayBe[int]{0, true}, api.Rat{Num: 1, Den: 1}}},
		{three(), spare{from(0, 3), mayBe[int]{-1, true}, api.Rat{Num: 4, Den: 3}}},
		{jobs{job(0, 60, 1)}, spare{none, mayBe[int]{59, true}, api.Rat{Num: 1, Den: 60}}},
		{jobs{job(0, 60, 60)}, spare{none, mayBe[int]{0, true}, api.Rat{Num: 1, Den: 1}}},
		{jobs{job(1, 60, 60)}, spare{from(1, 60), mayBe[int]{-1, true}, api.Rat{Num: 60, Den: 59}}},
		{jobs{job(5, 7, 4)}, spare{from(4, 7), mayBe[int]{-2, true}, api.Rat{Num: 2, Den: 1}}},
		{jobs{job(5, 7, 60)}, spare{from(0, 7), mayBe[int]{-58, true}, api.Rat{Num: 30, Den: 1}}},
		{jobs{job(0, 4, 2), job(10, 16, 4)}, spare{none, mayBe[int]{2, true}, api.Rat{Num: 2, Den: 3}}},
		{jobs{job(0, 4, 2), job(10, 12, 1)}, spare{none, mayBe[int]{1, true}, api.Rat{Num: 1, Den: 2}}},
		{slices.Repeat(jobs{job(59, 60, 60)}, 8), spare{from(0, 60), mayBe[int]{-479, true}, api.Rat{Num: 480, Den: 1}}},
		{slices.Repeat(jobs{job(0, 1, 60)}, 8), spare{from(0, 1), mayBe[int]{-479, true}, api.Rat{Num: 480, Den: 1}}},
	} {
		if got := theSpare(t, c.l); got != c.want {
			t.Errorf("%d: %v, want %v", i, got, c.want)
		}
	}
}
