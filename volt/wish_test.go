package volt_test

import (
	"slices"
	"testing"

	"quadrupole/api"
	"quadrupole/volt"
)

// TestField is of P7.2: the fields of all voltages of some gains.
func TestField(t *testing.T) {
	for _, gains := range someGains() {
		for _, volts := range allVolts(gains) {
			got, want := must[[]int](t)(volt.Field(gains, volts)), fieldOf(gains, volts)
			if !slices.Equal(got, want) {
				t.Fatalf("Field(%v, %v) = %v, want %v", gains, volts, got, want)
			}
		}
	}
	for i, c := range []struct {
		gains lists
		volts []int
		want  []int
	}{
		{one(), []int{1, 1}, []int{3}},
		{one(), []int{-3, -3}, []int{-9}},
		{two(), []int{1, -1, 3}, []int{18, 8}},
		{two(), []int{0, 0, 0}, []int{0, 0}},
		{lists{{9, 9, 9}, {-9, -9, -9}, {9, -9, 0}}, []int{3, 3, 3}, []int{81, -81, 0}},
		{lists{{5}, {0}, {-1}}, []int{-2}, []int{-10, 0, 2}},
	} {
		if got := must[[]int](t)(volt.Field(c.gains, c.volts)); !slices.Equal(got, c.want) {
			t.Errorf("%d: Field is %v, want %v", i, got, c.want)
		}
	}
}

// TestCheckVolts is of P7.2: all voltages of some gains, with fields, and with wishes that some or no field is.
func TestCheckVolts(t *testing.T) {
	right := 0
	for i, gains := range someGains() {
		wishes := someWishes(gains)
		for k, volts := range allVolts(gains) {
			field := fieldOf(gains, volts)
			if e := volt.CheckVolts(gains, field, volts); e != api.OK {
				t.Fatalf("CheckVolts(%v, %v, %v) = %v", gains, field, volts, e)
			}
			wish, want := wishes[(i+k)%len(wishes)], api.ErrProof
			if slices.Equal(field, wish) {
				want = api.OK
				right++
			}
			if e := volt.CheckVolts(gains, wish, volts); e != want {
				t.Fatalf("CheckVolts(%v, %v, %v) = %v, want %v", gains, wish, volts, e, want)
			}
		}
	}
	if right < 100 {
		t.Error(right)
	}
}

// TestVoltsAndWays is of P7.2, with the consequence that there are as many Ways of a wish as of its opposite.
func TestVoltsAndWays(t *testing.T) {
	for _, gains := range someGains() {
		for _, wish := range someWishes(gains) {
			all := makers(gains, wish)
			got := mustBe[[]int](t)(volt.Volts(gains, wish))
			if got.is != (len(all) > 0) || !got.is && len(got.value) > 0 {
				t.Fatalf("Volts(%v, %v) = %v", gains, wish, got)
			}
			if got.is && !slices.ContainsFunc(all, func(volts []int) bool { return slices.Equal(volts, got.value) }) {
				t.Fatalf("Volts(%v, %v) = %v, and right are %v", gains, wish, got, all)
			}
			if ways := must[int](t)(volt.Ways(gains, wish)); ways != len(all) {
				t.Fatalf("Ways(%v, %v) = %d, want %d", gains, wish, ways, len(all))
			}
			if ways := must[int](t)(volt.Ways(gains, opposite(wish))); ways != len(all) {
				t.Fatalf("Ways of the opposite of %v by %v: %d, want %d", wish, gains, ways, len(all))
			}
		}
	}
}

// TestFields is of P7.2, with the consequence that the Ways of all fields are as many as there are voltages.
func TestFields(t *testing.T) {
	for i, gains := range someGains() {
		fields := allFields(gains)
		if got := must[int](t)(volt.Fields(gains)); got != len(fields) {
			t.Fatalf("Fields(%v) = %d, want %d", gains, got, len(fields))
		}
		if len(gains[0]) == api.MaxWires && i%3 != 0 {
			continue
		}
		ways, want := 0, 1
		for _, field := range fields {
			ways += must[int](t)(volt.Ways(gains, field))
		}
		for range gains[0] {
			want *= 2*api.MaxVolt + 1
		}
		if ways != want {
			t.Fatalf("the Ways of all fields of %v are %d, want %d", gains, ways, want)
		}
	}
	for i, c := range []struct {
		gains lists
		want  int
	}{
		{one(), 19},
		{zeros(1, 1), 1},
		{zeros(3, 3), 1},
		{lists{{1}}, 7},
		{lists{{1}, {-1}, {9}}, 7},
		{lists{{1, 7}}, 49},
		{lists{{1, 0}, {0, 1}}, 49},
		{lists{{1, 0, 0}, {0, 1, 0}, {0, 0, 1}}, 343},
		{lists{{1, 7, 0}, {0, 0, 1}}, 343},
		{lists{{1, 1, 1}}, 19},
		{lists{{0, 0, 0}, {1, 1, 0}, {0, 0, 0}}, 13},
	} {
		if got := must[int](t)(volt.Fields(c.gains)); got != c.want {
			t.Errorf("%d: Fields is %d, want %d", i, got, c.want)
		}
	}
}

// TestWaysOfExamples is of P7.2 and P7.3: the chapter's examples, and wishes at the edge of what is possible.
func TestWaysOfExamples(t *testing.T) {
	if all := makers(one(), []int{3}); !equal(all, lists{{0, 3}, {1, 1}, {2, -1}, {3, -3}}) {
		t.Error(all)
	}
	for i, c := range []struct {
		gains lists
		wish  []int
		ways  int
		calm  mayBe[int]
	}{
		{one(), []int{3}, 4, mayBe[int]{1, true}},
		{one(), []int{-3}, 4, mayBe[int]{1, true}},
		{one(), []int{0}, 3, mayBe[int]{0, true}},
		{one(), []int{9}, 1, mayBe[int]{3, true}},
		{one(), []int{8}, 1, mayBe[int]{3, true}},
		{one(), []int{5}, 3, mayBe[int]{2, true}},
		{one(), []int{10}, 0, mayBe[int]{}},
		{one(), []int{1000}, 0, mayBe[int]{}},
		{one(), []int{-1000}, 0, mayBe[int]{}},
		{zeros(3, 3), []int{0, 0, 0}, 343, mayBe[int]{0, true}},
		{zeros(3, 3), []int{0, 0, 1}, 0, mayBe[int]{}},
		{lists{{9, 9, 9}, {-9, -9, -9}}, []int{81, -81}, 1, mayBe[int]{3, true}},
		{lists{{9, 9, 9}, {-9, -9, -9}}, []int{81, 81}, 0, mayBe[int]{}},
		{lists{{2}}, []int{-4}, 1, mayBe[int]{2, true}},
		{lists{{2}}, []int{3}, 0, mayBe[int]{}},
		{lists{{1, 1}}, []int{-1}, 6, mayBe[int]{1, true}},
	} {
		if got := must[int](t)(volt.Ways(c.gains, c.wish)); got != c.ways {
			t.Errorf("%d: Ways is %d, want %d", i, got, c.ways)
		}
		if got := mustBe[int](t)(volt.Calmest(c.gains, c.wish)); got != c.calm {
			t.Errorf("%d: Calmest is %v, want %v", i, got, c.calm)
		}
	}
}

// TestQuiet is of P7.3.
func TestQuiet(t *testing.T) {
	for _, gains := range someGains() {
		var want []int
		for _, volts := range makers(gains, make([]int, len(gains))) {
			if want == nil && slices.ContainsFunc(volts, func(x int) bool { return x != 0 }) {
				want = volts
			}
		}
		got := mustBe[[]int](t)(volt.Quiet(gains))
		if got.is != (want != nil) || !slices.Equal(got.value, want) {
			t.Fatalf("Quiet(%v) = %v, want %v", gains, got, want)
		}
	}
	for i, c := range []struct {
		gains lists
		want  []int
	}{
		{one(), []int{-1, 2}},
		{lists{{5, 1}}, nil},
		{lists{{1}}, nil},
		{lists{{0}}, []int{-3}},
		{lists{{0}, {-9}}, nil},
		{zeros(2, 3), []int{-3, -3, -3}},
		{lists{{1, 0, 0}}, []int{0, -3, -3}},
		{lists{{0, 0, 4}}, []int{-3, -3, 0}},
		{lists{{1, 0, 0}, {0, 0, 1}}, []int{0, -3, 0}},
		{lists{{3, -2}}, []int{-2, -3}},
		{lists{{1, -3}}, []int{-3, -1}},
	} {
		if got := mustBe[[]int](t)(volt.Quiet(c.gains)); got.is != (c.want != nil) || !slices.Equal(got.value, c.want) {
			t.Errorf("%d: Quiet is %v, want %v", i, got, c.want)
		}
	}
}

// TestCalmest is of P7.3.
func TestCalmest(t *testing.T) {
	calm := map[mayBe[int]]int{}
	for _, gains := range someGains() {
		for _, wish := range someWishes(gains) {
			want := mayBe[int]{}
			for _, volts := range makers(gains, wish) {
				greatest := apart(volts, make([]int, len(volts)))
				if !want.is || greatest < want.value {
					want = mayBe[int]{greatest, true}
				}
			}
			if got := mustBe[int](t)(volt.Calmest(gains, wish)); got != want {
				t.Fatalf("Calmest(%v, %v) = %v, want %v", gains, wish, got, want)
			}
			calm[want]++
		}
	}
	if len(calm) != api.MaxVolt+2 {
		t.Error(calm)
	}
}

// TestNearest is of P7.3, with the consequence that it is 0 exactly if there are Volts.
func TestNearest(t *testing.T) {
	far := map[int]bool{}
	for _, gains := range someGains() {
		for _, wish := range someWishes(gains) {
			want := nearest{1 << 30, nil}
			for _, volts := range allVolts(gains) {
				if x := apart(fieldOf(gains, volts), wish); x < want.far {
					want = nearest{x, volts}
				}
			}
			got := mustNear(t)(volt.Nearest(gains, wish))
			if got.far != want.far || !slices.Equal(got.volts, want.volts) {
				t.Fatalf("Nearest(%v, %v) = %v, want %v", gains, wish, got, want)
			}
			if is := mustBe[[]int](t)(volt.Volts(gains, wish)).is; is != (got.far == 0) {
				t.Fatalf("Nearest(%v, %v) = %v, and there are Volts: %v", gains, wish, got, is)
			}
			far[got.far] = true
		}
	}
	if len(far) < 30 {
		t.Error(len(far))
	}
	for i, c := range []struct {
		gains lists
		wish  []int
		far   int
		volts []int
	}{
		{one(), []int{12}, 3, []int{3, 3}},
		{one(), []int{3}, 0, []int{0, 3}},
		{one(), []int{1000}, 991, []int{3, 3}},
		{one(), []int{-1000}, 991, []int{-3, -3}},
		{lists{{1}, {-1}}, []int{2, 2}, 2, []int{0}},
		{lists{{1}, {-1}}, []int{1000, -1000}, 997, []int{3}},
		{lists{{2}}, []int{3}, 1, []int{1}},
		{lists{{2}}, []int{-3}, 1, []int{-2}},
		{zeros(3, 3), []int{1000, 0, -1000}, 1000, []int{-3, -3, -3}},
		{lists{{9, 9, 9}, {9, 9, 9}, {9, 9, 9}}, []int{-1000, -1000, 1000}, 1000, []int{-3, 0, 3}},
	} {
		if got := mustNear(t)(volt.Nearest(c.gains, c.wish)); got.far != c.far || !slices.Equal(got.volts, c.volts) {
			t.Errorf("%d: Nearest is %v, want %v, %v", i, got, c.far, c.volts)
		}
	}
}
