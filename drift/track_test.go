package drift_test

import (
	"math"
	"slices"
	"testing"

	"quadrupole/api"
	"quadrupole/drift"
)

// checked is CheckTrack by the words of the chapter.
func checked(s sample, track []int) api.Errno {
	first, last := s.l[0].Time, s.l[len(s.l)-1].Time
	if len(track) != last-first+1 || slices.ContainsFunc(track, func(x int) bool { return x < -1000 || x > 1000 }) {
		return api.ErrArg
	}
	for at := range track[1:] {
		if max(track[at]-track[at+1], track[at+1]-track[at]) > s.rate {
			return api.ErrRule
		}
	}
	for _, r := range s.l {
		if x := track[r.Time-first]; x < r.Low || x > r.High {
			return api.ErrProof
		}
	}
	return api.OK
}

// TestTrack is of P6.5: there is a track exactly if readings agree, and it keeps the rate and the readings.
func TestTrack(t *testing.T) {
	agreed := 0
	for _, s := range samples() {
		got, agree := mustBe[[]int](t)(drift.Track(s.l, s.rate)), agrees(s.l, s.rate)
		if got.is != agree || !agree && len(got.value) != 0 {
			t.Fatalf("Track(%v) = %v, and they agree: %v", s, got, agree)
		}
		if !agree {
			continue
		}
		agreed++
		if e := checked(s, got.value); e != api.OK {
			t.Fatalf("Track(%v) = %v: %v", s, got, e)
		}
		if e := drift.CheckTrack(s.l, s.rate, got.value); e != api.OK {
			t.Fatalf("CheckTrack(%v, %v) of Track: %v", s, got, e)
		}
	}
	if agreed < 1000 {
		t.Error(agreed)
	}
}

// TestTrackAtTheEdge is of P6.5: readings that let numbers go beyond MaxValue between them.
func TestTrackAtTheEdge(t *testing.T) {
	for _, x := range []int{-1000, -999, 0, 999, 1000} {
		for _, times := range [][2]int{{0, 1}, {0, 2}, {500, 503}, {0, 1000}, {999, 1000}} {
			for rate := range api.MaxRate + 1 {
				s := sample{readings{reading(times[0], min(0, x), max(0, x)), reading(times[1], x, x)}, rate}
				got := mustBe[[]int](t)(drift.Track(s.l, s.rate))
				if e := checked(s, got.value); !got.is || e != api.OK {
					t.Fatalf("Track(%v) = %v: %v", s, got, e)
				}
			}
		}
	}
}

// TestCheckTrack is of P6.5: all tracks of few times.
func TestCheckTrack(t *testing.T) {
	outcomes := map[api.Errno]int{}
	l := readings{reading(5, 0, 1), reading(6, -1, 1), reading(8, 1, 2)}
	tracks := [][]int{{0}}
	for range 4 {
		tracks = longer(tracks, 3)
	}
	for _, track := range tracks {
		for rate := range 4 {
			s := sample{l, rate}
			got, want := drift.CheckTrack(l, rate, track[1:]), checked(s, track[1:])
			outcomes[got]++
			if got != want {
				t.Fatalf("CheckTrack(%v, %v) = %v, want %v", s, track[1:], got, want)
			}
		}
	}
	if outcomes[api.OK] < 10 || outcomes[api.ErrRule] < 100 || outcomes[api.ErrProof] < 100 {
		t.Error(outcomes)
	}
}

// TestCheckTrackOfSome is of P6.5: edge cases, and the order of the errors.
func TestCheckTrackOfSome(t *testing.T) {
	wide := readings{reading(7, -1000, 1000), reading(9, -1000, 1000)}
	zero := readings{reading(7, 0, 0), reading(9, 0, 0)}
	for i, c := range []struct {
		l     readings
		rate  int
		track []int
		want  api.Errno
	}{
		{two(), 2, []int{1, 3, 5, 7, 9}, api.OK},
		{two(), 3, []int{1, 1, 4, 7, 10}, api.OK},
		{two(), 3, []int{0, 3, 6, 9, 9}, api.OK},
		{two(), 1, []int{1, 3, 5, 7, 9}, api.ErrRule},
		{two(), 2, []int{1, 3, 5, 7}, api.ErrArg},
		{two(), 2, []int{1, 3, 5, 7, 9, 9}, api.ErrArg},
		{two(), 2, nil, api.ErrArg},
		{one(), 0, []int{0}, api.OK},
		{one(), 0, []int{2}, api.OK},
		{one(), 0, []int{-1}, api.ErrProof},
		{one(), 9, []int{3}, api.ErrProof},
		{one(), 9, nil, api.ErrArg},
		{one(), 9, []int{1, 1}, api.ErrArg},
		{one(), 9, []int{1, 1, 1, 1}, api.ErrArg},
		{wide, 9, []int{1000, 1000, 1000}, api.OK},
		{wide, 9, []int{-1000, -1000, -1000}, api.OK},
		{wide, 9, []int{1000, 1001, 1000}, api.ErrArg},
		{wide, 9, []int{-1000, -1001, -1000}, api.ErrArg},
		{wide, 9, []int{1001, 1000, 1000}, api.ErrArg},
		{wide, 9, []int{0, 0, -1001}, api.ErrArg},
		{wide, 9, []int{math.MinInt, 0, math.MaxInt}, api.ErrArg},
		{wide, 9, []int{0, math.MaxInt, math.MinInt}, api.ErrArg},
		{wide, 9, []int{-1000, 1000, 1000}, api.ErrRule},
		{wide, 9, []int{0, 9, 18}, api.OK},
		{wide, 9, []int{0, 10, 18}, api.ErrRule},
		{wide, 9, []int{0, -9, -18}, api.OK},
		{wide, 9, []int{0, -9, -19}, api.ErrRule},
		{wide, 0, []int{5, 5, 5}, api.OK},
		{wide, 0, []int{5, 5, 6}, api.ErrRule},
		{zero, 1, []int{0, 1, 0}, api.OK},
		{zero, 1, []int{0, 1, 1}, api.ErrProof},
		{zero, 1, []int{-1, 0, 0}, api.ErrProof},
		{zero, 1, []int{5, 9, 1001}, api.ErrArg},
		{zero, 1, []int{5, 9, 9}, api.ErrRule},
		{zero, 1, []int{5, 5, 9}, api.ErrRule},
		{zero, 1, []int{5, 6, 7, 8}, api.ErrArg},
	} {
		if got := drift.CheckTrack(c.l, c.rate, c.track); got != c.want {
			t.Errorf("%d: %v, want %v", i, got, c.want)
		}
	}
}
