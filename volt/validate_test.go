package volt_test

import (
	"math"
	"slices"
	"testing"

	"quadrupole/api"
	"quadrupole/volt"
)

// noGains are lists that are no gains.
func noGains() []lists {
	all := []lists{nil, {}, {nil}, {{}}, {{}, {}}, {nil, {1}}, {{1}, nil}, {{1}, {}}, {{1, 2}, {3}}, {{1}, {2, 3}}, {{1, 2}, {3, 4}, {5}}, {{1, 2, 3}, {4, 5, 6}, {7, 8, 9, 0}}, zeros(1, 4), zeros(2, 4), zeros(3, 4), zeros(4, 1), zeros(4, 3), zeros(4, 4), zeros(1, 1000), zeros(1000, 1)}
	for _, x := range []int{-10, 10, 1000, math.MinInt, math.MaxInt} {
		all = append(all, lists{{x}}, lists{{0}, {x}})
		for place := range 9 {
			gains := zeros(3, 3)
			gains[place/3][place%3] = x
			all = append(all, gains)
		}
	}
	return all
}

// TestValidate is of P7.1: what is gains, and what is none.
func TestValidate(t *testing.T) {
	for points := 1; points <= api.MaxPoints; points++ {
		for wires := 1; wires <= api.MaxWires; wires++ {
			for x := -api.MaxGain; x <= api.MaxGain; x++ {
				gains := zeros(points, wires)
				gains[(x+9)%points][(x+9)%wires] = x
				if e := volt.Validate(gains); e != api.OK {
					t.Errorf("%v: %v", gains, e)
				}
			}
		}
	}
	for _, gains := range noGains() {
		if e := volt.Validate(gains); e != api.ErrArg {
			t.Errorf("%v: %v", gains, e)
		}
	}
}

// outcome is the error of a call, and whether all its other results are zero values.
type outcome struct {
	name  string
	e     api.Errno
	empty bool
}

// others are the arguments beside the gains.
type others struct {
	wish, a, b  []int
	row, course lists
	wire        int
}

// callsOf are the functions that are given gains, and no wishes.
func callsOf(gains lists, o others) []outcome {
	field, e1 := volt.Field(gains, o.a)
	fields, e2 := volt.Fields(gains)
	quiet, is, e3 := volt.Quiet(gains)
	without, e4 := volt.Without(gains, o.wire)
	sum, can, e5 := volt.Sum(gains, o.a, o.b)
	return []outcome{
		{"Validate", volt.Validate(gains), true},
		{"Field", e1, len(field) == 0},
		{"Fields", e2, fields == 0},
		{"Quiet", e3, len(quiet) == 0 && !is},
		{"Without", e4, len(without) == 0},
		{"Sum", e5, len(sum) == 0 && !can},
	}
}

// callsWith are the functions that are given gains and a wish.
func callsWith(gains lists, o others) []outcome {
	volts, is, e1 := volt.Volts(gains, o.wish)
	ways, e2 := volt.Ways(gains, o.wish)
	calm, can, e3 := volt.Calmest(gains, o.wish)
	far, near, e4 := volt.Nearest(gains, o.wish)
	return []outcome{
		{"CheckVolts", volt.CheckVolts(gains, o.wish, o.a), true},
		{"Volts", e1, len(volts) == 0 && !is},
		{"Ways", e2, ways == 0},
		{"Calmest", e3, calm == 0 && !can},
		{"Nearest", e4, far == 0 && len(near) == 0},
	}
}

// callsBy are the functions that are given gains and a row.
func callsBy(gains lists, o others) []outcome {
	jump, e1 := volt.CheckCourse(gains, o.row, o.course)
	smooth, is, e2 := volt.Smooth(gains, o.row)
	course, can, e3 := volt.Course(gains, o.row)
	return []outcome{
		{"CheckCourse", e1, jump == 0},
		{"Smooth", e2, smooth == 0 && !is},
		{"Course", e3, len(course) == 0 && !can},
	}
}

// wantAll wants an error, and no other results, of all calls.
func wantAll(t *testing.T, what any, all []outcome, want api.Errno) {
	t.Helper()
	for _, got := range all {
		if got.e != want || want != api.OK && !got.empty {
			t.Errorf("%v: %s: error %v, want %v; other results are zero values: %v", what, got.name, got.e, want, got.empty)
		}
	}
}

// right are arguments for the gains of the chapter's examples.
func right() others {
	return others{wish: []int{3}, a: []int{1, 1}, b: []int{-1, 2}, row: lists{{3}, {5}}, course: lists{{1, 1}, {2, 1}}}
}

// TestGainErrorsComeFirst is of P7.1 with R2 and R3.
func TestGainErrorsComeFirst(t *testing.T) {
	names := map[string]bool{}
	for _, gains := range noGains() {
		for _, o := range []others{
			{},
			right(),
			{wish: []int{0}, a: []int{0}, b: []int{0}, row: lists{{0}}, course: lists{{0}}, wire: 1},
			{wish: []int{0, 0, 0}, a: []int{0, 0, 0}, b: []int{0, 0, 0}, row: lists{{0, 0, 0}}, course: lists{{0, 0, 0}}, wire: -1},
			{wish: []int{0, 0, 0, 0}, a: []int{0, 0, 0, 0}, b: []int{0, 0, 0, 0}, row: lists{{0, 0, 0, 0}}, course: lists{{0, 0, 0, 0}}, wire: 3},
			{wish: []int{1001}, a: []int{4}, b: []int{4}, row: lists{{1001}}, course: lists{{4}}, wire: math.MinInt},
		} {
			all := slices.Concat(callsOf(gains, o), callsWith(gains, o), callsBy(gains, o))
			for _, got := range all {
				names[got.name] = true
			}
			wantAll(t, gains, all, api.ErrArg)
		}
	}
	if len(names) != 14 {
		t.Errorf("%d functions with gains, want 14", len(names))
	}
}

// TestRightArguments is of P7.1: what is given is right, and is at the edge of it.
func TestRightArguments(t *testing.T) {
	o := right()
	wantAll(t, o, slices.Concat(callsOf(one(), o), callsWith(one(), o), callsBy(one(), o)), api.OK)
	for _, x := range []int{-1000, 1000} {
		o := others{wish: []int{x, -x, x}, a: []int{-3, 3, -3}, b: []int{3, -3, 3}, row: slices.Repeat(lists{{x, x, -x}}, api.MaxRow), course: slices.Repeat(lists{{3, -3, 3}}, api.MaxRow), wire: 2}
		wantAll(t, o, callsOf(zeros(3, 3), o), api.OK)
		wantAll(t, o, callsWith(zeros(3, 3), o)[1:], api.OK)
		wantAll(t, o, callsBy(zeros(3, 3), o)[1:], api.OK)
		wantAll(t, o, []outcome{callsWith(zeros(3, 3), o)[0], callsBy(zeros(3, 3), o)[0]}, api.ErrProof)
	}
}

// noVolts are no voltages of two electrodes.
func noVolts() lists {
	return lists{nil, {}, {1}, {1, 2, 3}, {4, 0}, {0, 4}, {-4, 0}, {0, -4}, {math.MaxInt, 0}, {0, math.MaxInt}, {math.MinInt, 0}, {0, math.MinInt}, make([]int, 1000)}
}

// TestVoltErrors is of P7.1: volts, a or b are no voltages of the gains. It comes before the error of a proof, and before the answer that there is no sum.
func TestVoltErrors(t *testing.T) {
	for _, gains := range []lists{one(), {{1, 2}, {3, 4}}, zeros(3, 2)} {
		for _, volts := range noVolts() {
			wish := make([]int, len(gains))
			field, e := volt.Field(gains, volts)
			all := []outcome{{"Field", e, len(field) == 0}, {"CheckVolts", volt.CheckVolts(gains, wish, volts), true}}
			for _, other := range append(noVolts(), []int{0, 0}, []int{3, 3}) {
				sum, is, e := volt.Sum(gains, volts, other)
				mus, si, f := volt.Sum(gains, other, volts)
				all = append(all, outcome{"Sum", e, len(sum) == 0 && !is}, outcome{"Sum", f, len(mus) == 0 && !si})
			}
			wantAll(t, volts, all, api.ErrArg)
		}
	}
}

// TestWishErrors is of P7.1: the wish is none, alone or at each place of a row.
func TestWishErrors(t *testing.T) {
	gains := lists{{1, 0}, {0, 1}}
	wishes := lists{nil, {}, {1}, {1, 2, 3}, {1001, 0}, {0, 1001}, {-1001, 0}, {0, -1001}, {math.MaxInt, 0}, {0, math.MaxInt}, {math.MinInt, 0}, {0, math.MinInt}, make([]int, 1000)}
	for _, wish := range wishes {
		for _, volts := range append(noVolts(), []int{0, 0}) {
			wantAll(t, wish, callsWith(gains, others{wish: wish, a: volts}), api.ErrArg)
		}
		for count := 1; count <= api.MaxRow; count++ {
			for k := range count {
				row := zeros(count, 2)
				row[k] = wish
				wantAll(t, row, callsBy(gains, others{row: row, course: zeros(count, 2)}), api.ErrArg)
			}
		}
	}
}

// TestRowErrors is of P7.1: there are no wishes in a row, or too many.
func TestRowErrors(t *testing.T) {
	for _, count := range []int{0, api.MaxRow + 1, 100} {
		row := slices.Repeat(lists{{3}}, count)
		wantAll(t, row, callsBy(one(), others{row: row, course: slices.Repeat(lists{{1, 1}}, count)}), api.ErrArg)
		wantAll(t, row, callsBy(one(), others{row: row, course: lists{{1, 1}}}), api.ErrArg)
	}
	for count := 1; count <= api.MaxRow; count++ {
		row := slices.Repeat(lists{{3}}, count)
		wantAll(t, row, callsBy(one(), others{row: row, course: slices.Repeat(lists{{1, 1}}, count)}), api.OK)
	}
}

// callsOfTwo are the functions that are given voltages without gains, and those of them with a slew.
func callsOfTwo(a, b []int, slew int) []outcome {
	jump, e1 := volt.Jump(a, b)
	return append([]outcome{{"Jump", e1, jump == 0}}, callsWithSlew(a, b, slew)...)
}

func callsWithSlew(a, b []int, slew int) []outcome {
	steps, e1 := volt.Steps(a, b, slew)
	ramp, e2 := volt.Ramp(a, b, slew)
	return []outcome{{"Steps", e1, steps == 0}, {"Ramp", e2, len(ramp) == 0}}
}

// TestErrorsWithoutGains is of P7.1: Jump, Steps and Ramp.
func TestErrorsWithoutGains(t *testing.T) {
	for _, slew := range []int{-1, 0, 1, 6, 7, math.MinInt, math.MaxInt} {
		for _, a := range noVolts() {
			wantAll(t, a, callsOfTwo(a, []int{0, 0}, slew), api.ErrArg)
			wantAll(t, a, callsOfTwo([]int{0, 0}, a, slew), api.ErrArg)
			if len(a) != 1 && len(a) != 3 {
				wantAll(t, a, callsOfTwo(a, a, slew), api.ErrArg)
			}
		}
		for wires := range 5 {
			for others := range 5 {
				want := api.ErrArg
				if wires == others && 1 <= wires && wires <= api.MaxWires {
					want = api.OK
				}
				a, b := make([]int, wires), make([]int, others)
				jump, e := volt.Jump(a, b)
				wantAll(t, wires, []outcome{{"Jump", e, jump == 0}}, want)
				if slew < 1 || slew > 6 {
					want = api.ErrArg
				}
				wantAll(t, slew, callsWithSlew(a, b, slew), want)
			}
		}
	}
	for slew := -3; slew <= 9; slew++ {
		want := api.ErrArg
		if 1 <= slew && slew <= 2*api.MaxVolt {
			want = api.OK
		}
		wantAll(t, slew, callsWithSlew([]int{-3, 3, 0}, []int{3, -3, 0}, slew), want)
		wantAll(t, slew, callsWithSlew([]int{2}, []int{2}, slew), want)
	}
}

// TestWireErrors is of P7.5: there is no such electrode, which comes first, or it is the only one.
func TestWireErrors(t *testing.T) {
	for points := 1; points <= api.MaxPoints; points++ {
		for wires := 1; wires <= api.MaxWires; wires++ {
			for _, wire := range []int{math.MinInt, -1, 0, 1, 2, 3, 4, math.MaxInt} {
				want := api.OK
				if wire < 0 || wire >= wires {
					want = api.ErrNone
				} else if wires == 1 {
					want = api.ErrArg
				}
				got, e := volt.Without(zeros(points, wires), wire)
				if e != want || want == api.OK && !equal(got, zeros(points, wires-1)) || want != api.OK && len(got) != 0 {
					t.Errorf("Without %d of %d electrodes: %v, %v, want %v", wire, wires, got, e, want)
				}
			}
		}
	}
}
