package volt_test

import (
	"math"
	"math/rand"
	"slices"
	"testing"

	"quadrupole/api"
	"quadrupole/volt"
)

// sample is gains with a row of wishes.
type sample struct {
	gains, row lists
}

// samples are rows of all lengths, the same ones each time: rows of fields, where there is a course, and rows with a wish beside them.
func samples() []sample {
	var all []sample
	r := rand.New(rand.NewSource(74))
	for i, gains := range someGains() {
		fields := allFields(gains)
		if len(fields) < 3 && i%8 != 0 {
			continue
		}
		for count := 1; count <= api.MaxRow; count++ {
			var row lists
			for range count {
				row = append(row, fields[r.Intn(len(fields))])
			}
			all = append(all, sample{gains, row})
			if i%4 == 0 {
				beside := copyOf(row)
				beside[r.Intn(count)][0] += 1 + r.Intn(2)
				all = append(all, sample{gains, beside})
			}
		}
	}
	return all
}

// canKeep reports whether there is a course of a jump of at most so much: which voltages can be reached, wish by wish.
func canKeep(wishes []lists, jump int) bool {
	reached := wishes[0]
	for _, makers := range wishes[1:] {
		var next lists
		for _, volts := range makers {
			if slices.ContainsFunc(reached, func(before []int) bool { return apart(before, volts) <= jump }) {
				next = append(next, volts)
			}
		}
		reached = next
	}
	return len(reached) > 0
}

// wishesOf lists the voltages for each wish of a row.
func wishesOf(s sample) []lists {
	var wishes []lists
	for _, wish := range s.row {
		wishes = append(wishes, makers(s.gains, wish))
	}
	return wishes
}

// smoothOf is Smooth by the words of the chapter.
func smoothOf(s sample) mayBe[int] {
	wishes := wishesOf(s)
	for jump := 0; jump <= 2*api.MaxVolt; jump++ {
		if canKeep(wishes, jump) {
			return mayBe[int]{jump, true}
		}
	}
	return mayBe[int]{}
}

// coursesOf lists the courses of few voltages for each wish.
func coursesOf(wishes []lists) []lists {
	if len(wishes) == 0 {
		return []lists{nil}
	}
	var all []lists
	for _, before := range coursesOf(wishes[:len(wishes)-1]) {
		for _, volts := range wishes[len(wishes)-1] {
			all = append(all, append(slices.Clone(before), volts))
		}
	}
	return all
}

// jumpOf is the jump of a course by the words of the chapter.
func jumpOf(course lists) int {
	jump := 0
	for k := 1; k < len(course); k++ {
		jump = max(jump, apart(course[k-1], course[k]))
	}
	return jump
}

// TestSmoothOf checks the search by jumps by the words of the chapter: with courses that are listed. Their jumps are those that CheckCourse tells (P7.4).
func TestSmoothOf(t *testing.T) {
	listed := 0
	for _, s := range samples() {
		count := 1
		wishes := wishesOf(s)
		for _, makers := range wishes {
			count *= len(makers)
		}
		if count > 500 {
			continue
		}
		want := mayBe[int]{}
		for _, course := range coursesOf(wishes) {
			jump := jumpOf(course)
			if !want.is || jump < want.value {
				want = mayBe[int]{jump, true}
			}
			if got := must[int](t)(volt.CheckCourse(s.gains, s.row, course)); got != jump {
				t.Fatalf("CheckCourse(%v, %v) = %d, want %d", s, course, got, jump)
			}
			listed++
		}
		if got := smoothOf(s); got != want {
			t.Fatalf("%v: %v, and of the courses that are listed %v", s, got, want)
		}
	}
	if listed < 5000 {
		t.Error(listed)
	}
}

// TestSmoothAndCourse is of P7.4.
func TestSmoothAndCourse(t *testing.T) {
	smooth := map[mayBe[int]]int{}
	for _, s := range samples() {
		want := smoothOf(s)
		if got := mustBe[int](t)(volt.Smooth(s.gains, s.row)); got != want {
			t.Fatalf("Smooth(%v) = %v, want %v", s, got, want)
		}
		course := mustBe[lists](t)(volt.Course(s.gains, s.row))
		if course.is != want.is || !course.is && len(course.value) > 0 {
			t.Fatalf("Course(%v) = %v, and Smooth is %v", s, course, want)
		}
		smooth[want]++
		if !course.is {
			continue
		}
		for k, volts := range course.value {
			if !slices.Equal(fieldOf(s.gains, volts), s.row[k]) {
				t.Fatalf("Course(%v) = %v", s, course)
			}
		}
		if len(course.value) != len(s.row) || jumpOf(course.value) != want.value {
			t.Fatalf("Course(%v) = %v, and Smooth is %v", s, course, want)
		}
		if got := must[int](t)(volt.CheckCourse(s.gains, s.row, course.value)); got != want.value {
			t.Fatalf("CheckCourse(%v, %v) = %d, want %d", s, course.value, got, want.value)
		}
	}
	for _, outcome := range []mayBe[int]{{0, false}, {0, true}, {1, true}, {2, true}, {3, true}, {4, true}, {5, true}, {6, true}} {
		if smooth[outcome] < 20 {
			t.Errorf("%v: %d samples", outcome, smooth[outcome])
		}
	}
}

// TestSmoothFromTheEnd is the consequence of P7.4, S7: a row from its end, beginnings of rows, and single wishes.
func TestSmoothFromTheEnd(t *testing.T) {
	for _, s := range samples() {
		got := mustBe[int](t)(volt.Smooth(s.gains, s.row))
		back := slices.Clone(s.row)
		slices.Reverse(back)
		if other := mustBe[int](t)(volt.Smooth(s.gains, back)); other != got {
			t.Fatalf("Smooth(%v) = %v, and from the end %v", s, got, other)
		}
		each := true
		for k, wish := range s.row {
			each = each && mustBe[[]int](t)(volt.Volts(s.gains, wish)).is
			start := mustBe[int](t)(volt.Smooth(s.gains, s.row[:k+1]))
			if start.is != each || got.is && start.value > got.value {
				t.Fatalf("Smooth(%v) = %v, and that of the first %d wishes %v", s, got, k+1, start)
			}
		}
		if got.is != each {
			t.Fatalf("Smooth(%v) = %v, and there are Volts for each wish: %v", s, got, each)
		}
	}
}

// TestSmoothOfSome is of P7.4: the chapter's example, and edges.
func TestSmoothOfSome(t *testing.T) {
	for i, c := range []struct {
		gains, row lists
		want       int
		is         bool
	}{
		{one(), lists{{3}, {5}}, 1, true},
		{one(), lists{{9}}, 0, true},
		{one(), lists{{0}}, 0, true},
		{one(), lists{{9}, {-9}}, 6, true},
		{one(), lists{{3}, {3}, {3}, {3}, {3}}, 0, true},
		{one(), lists{{9}, {3}, {0}}, 2, true},
		{one(), lists{{9}, {9}, {-9}, {9}, {9}}, 6, true},
		{one(), lists{{3}, {10}}, 0, false},
		{one(), lists{{10}}, 0, false},
		{one(), lists{{10}, {3}}, 0, false},
		{one(), lists{{3}, {1000}, {3}}, 0, false},
		{one(), lists{{3}, {3}, {3}, {3}, {-1000}}, 0, false},
		{zeros(3, 3), slices.Repeat(lists{{0, 0, 0}}, 5), 0, true},
		{zeros(3, 3), lists{{0, 0, 0}, {0, 1, 0}}, 0, false},
		// The smoothest way to the second wish is not the beginning of the smoothest way to the third one.
		{lists{{1, 3}}, lists{{-12}, {-6}}, 2, true},
		{lists{{1, 3}}, lists{{-12}, {-6}, {12}}, 5, true},
		{lists{{1, 3}}, lists{{12}, {-6}, {-12}}, 5, true},
	} {
		if want := smoothOf(sample{c.gains, c.row}); want != (mayBe[int]{c.want, c.is}) {
			t.Fatalf("%d: the search finds %v", i, want)
		}
		if got := mustBe[int](t)(volt.Smooth(c.gains, c.row)); got != (mayBe[int]{c.want, c.is}) {
			t.Errorf("%d: Smooth is %v", i, got)
		}
	}
	if got := must[int](t)(volt.CheckCourse(one(), lists{{3}, {5}}, lists{{1, 1}, {2, 1}})); got != 1 {
		t.Error(got)
	}
}

// TestJump is of P7.4.
func TestJump(t *testing.T) {
	for wires := 1; wires <= api.MaxWires; wires++ {
		all := everyList(wires, api.MaxVolt)
		for i, a := range all {
			for k := i % 5; k < len(all); k += 1 + len(all)/50 {
				if got := must[int](t)(volt.Jump(a, all[k])); got != apart(a, all[k]) {
					t.Fatalf("Jump(%v, %v) = %d", a, all[k], got)
				}
			}
		}
	}
	for i, c := range []struct {
		a, b []int
		want int
	}{
		{[]int{1, -2}, []int{3, 1}, 3},
		{[]int{3, 1}, []int{1, -2}, 3},
		{[]int{0}, []int{0}, 0},
		{[]int{-3, 3, -3}, []int{3, -3, 3}, 6},
		{[]int{3, 3, -3}, []int{3, 3, -2}, 1},
		{[]int{-1, 0, 0}, []int{3, 0, 0}, 4},
	} {
		if got := must[int](t)(volt.Jump(c.a, c.b)); got != c.want {
			t.Errorf("%d: Jump is %d, want %d", i, got, c.want)
		}
	}
}

// TestCheckCourse is of P7.4: courses that are none, at each place, and the order of their errors.
func TestCheckCourse(t *testing.T) {
	row := lists{{3}, {5}, {0}, {9}, {3}}
	right := lists{{0, 3}, {3, -1}, {0, 0}, {3, 3}, {1, 1}}
	if got, e := volt.CheckCourse(one(), row, right); got != 4 || e != api.OK {
		t.Fatal(got, e)
	}
	want := func(course lists, want api.Errno) {
		t.Helper()
		if got, e := volt.CheckCourse(one(), row, course); got != 0 || e != want {
			t.Errorf("CheckCourse(%v) = %d, %v, want %v", course, got, e, want)
		}
	}
	want(nil, api.ErrArg)
	want(right[:4], api.ErrArg)
	want(append(copyOf(right), []int{1, 1}), api.ErrArg)
	for k := range right {
		course := copyOf(right)
		for _, volts := range (lists{nil, {}, {0}, {0, 0, 0}, {4, 0}, {0, -4}, {math.MaxInt, 0}, {0, math.MinInt}}) {
			course[k] = volts
			want(course, api.ErrArg)
			course[(k+1)%5] = []int{-3, -3}
			want(course, api.ErrArg)
			course[(k+1)%5] = right[(k+1)%5]
		}
		course[k] = []int{-3, -3}
		want(course, api.ErrProof)
	}
	if got, e := volt.CheckCourse(one(), lists{{1000}}, lists{{3, 3}}); got != 0 || e != api.ErrProof {
		t.Error(got, e)
	}
}
