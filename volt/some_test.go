package volt_test

import (
	"math/rand"
	"slices"
	"testing"

	"quadrupole/api"
	"quadrupole/volt"
)

type lists = [][]int

// one is the gains of the chapter's examples, two is two points with three electrodes.
func one() lists { return lists{{2, 1}} }
func two() lists { return lists{{9, -9, 0}, {1, 2, 3}} }

// zeros are gains of which all fields are 0.
func zeros(points, wires int) lists {
	var gains lists
	for range points {
		gains = append(gains, make([]int, wires))
	}
	return gains
}

// everyList lists the lists of so many numbers from -most to most, in ascending order.
func everyList(count, most int) lists {
	if count == 0 {
		return lists{nil}
	}
	var all lists
	for _, before := range everyList(count-1, most) {
		for x := -most; x <= most; x++ {
			all = append(all, append(slices.Clone(before), x))
		}
	}
	return all
}

// smallGains are all gains of one point or of two with few numbers.
func smallGains() []lists {
	var all []lists
	for _, x := range everyList(1, api.MaxGain) {
		all = append(all, lists{x})
	}
	for _, x := range everyList(2, 3) {
		all = append(all, lists{x})
	}
	for _, x := range everyList(4, 1) {
		all = append(all, lists{x[:2], x[2:]})
	}
	return all
}

// randomGains are gains of so many points and electrodes, with numbers from -most to most.
func randomGains(r *rand.Rand, points, wires, most int) lists {
	gains := zeros(points, wires)
	for _, row := range gains {
		for wire := range row {
			row[wire] = r.Intn(2*most+1) - most
		}
	}
	return gains
}

// greatGains are gains with all numbers of points and of electrodes, the same ones each time.
func greatGains() []lists {
	var all []lists
	r := rand.New(rand.NewSource(7))
	for points := 1; points <= api.MaxPoints; points++ {
		for wires := 1; wires <= api.MaxWires; wires++ {
			all = append(all, zeros(points, wires))
			for _, most := range []int{1, 2, 5, api.MaxGain} {
				all = append(all, randomGains(r, points, wires, most), randomGains(r, points, wires, most))
			}
		}
	}
	return all
}

func someGains() []lists {
	return append(append(smallGains(), one(), two()), greatGains()...)
}

// fieldOf is the field of voltages by the words of the chapter.
func fieldOf(gains lists, volts []int) []int {
	var field []int
	for point := range gains {
		sum := 0
		for wire := range volts {
			sum += gains[point][wire] * volts[wire]
		}
		field = append(field, sum)
	}
	return field
}

// allVolts lists the voltages of gains, in ascending order.
func allVolts(gains lists) lists {
	return everyList(len(gains[0]), api.MaxVolt)
}

// makers lists the voltages whose field is a wish, in ascending order.
func makers(gains lists, wish []int) lists {
	return slices.DeleteFunc(allVolts(gains), func(volts []int) bool { return !slices.Equal(fieldOf(gains, volts), wish) })
}

// allFields lists the different fields of gains, in ascending order.
func allFields(gains lists) lists {
	var fields lists
	for _, volts := range allVolts(gains) {
		fields = append(fields, fieldOf(gains, volts))
	}
	slices.SortFunc(fields, slices.Compare[[]int])
	return slices.CompactFunc(fields, slices.Equal[[]int])
}

// someWishes are some of the fields of gains, wishes beside them, and the greatest wishes.
func someWishes(gains lists) lists {
	var all lists
	fields := allFields(gains)
	for k := 0; k < len(fields); k += 1 + len(fields)/9 {
		beside := slices.Clone(fields[k])
		beside[k%len(beside)]++
		all = append(all, fields[k], beside)
	}
	for _, x := range []int{0, api.MaxField, -api.MaxField, 82} {
		all = append(all, slices.Repeat([]int{x}, len(gains)))
	}
	return all
}

// apart is the greatest absolute difference of two lists, at a place.
func apart(a, b []int) int {
	far := 0
	for k := range a {
		far = max(far, a[k]-b[k], b[k]-a[k])
	}
	return far
}

// opposite is the opposite of a list.
func opposite(l []int) []int {
	var all []int
	for _, x := range l {
		all = append(all, -x)
	}
	return all
}

func equal(a, b lists) bool {
	return slices.EqualFunc(a, b, slices.Equal[[]int])
}

// copyOf is a copy that shares no memory.
func copyOf(l lists) lists {
	var all lists
	for _, x := range l {
		all = append(all, slices.Clone(x))
	}
	return all
}

// must returns the value of a call that gave no error.
func must[T any](t *testing.T) func(T, api.Errno) T {
	return func(value T, e api.Errno) T {
		t.Helper()
		if e != api.OK {
			t.Fatal(e)
		}
		return value
	}
}

// mayBe is the value of a call that reports whether there is one.
type mayBe[T any] struct {
	value T
	is    bool
}

// mustBe returns the value of a call that gave no error, and whether there is one.
func mustBe[T any](t *testing.T) func(T, bool, api.Errno) mayBe[T] {
	return func(value T, is bool, e api.Errno) mayBe[T] {
		t.Helper()
		if e != api.OK {
			t.Fatal(e)
		}
		return mayBe[T]{value, is}
	}
}

// nearest is the outcome of Nearest.
type nearest struct {
	far   int
	volts []int
}

// mustNear returns the outcome of a call of Nearest that gave no error.
func mustNear(t *testing.T) func(int, []int, api.Errno) nearest {
	return func(far int, volts []int, e api.Errno) nearest {
		t.Helper()
		if e != api.OK {
			t.Fatal(e)
		}
		return nearest{far, volts}
	}
}

// TestSamples checks that there are samples of all kinds, so that the tests by them are of use.
func TestSamples(t *testing.T) {
	quiet, loud, none, several := 0, 0, 0, 0
	for _, gains := range someGains() {
		if e := volt.Validate(gains); e != api.OK {
			t.Fatalf("%v: %v", gains, e)
		}
		if len(makers(gains, make([]int, len(gains)))) > 1 {
			quiet++
		} else {
			loud++
		}
		for _, wish := range someWishes(gains) {
			switch len(makers(gains, wish)) {
			case 0:
				none++
			case 1:
			default:
				several++
			}
		}
	}
	if quiet < 50 || loud < 50 || none < 500 || several < 500 {
		t.Error(quiet, loud, none, several)
	}
}
