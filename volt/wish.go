package volt

import (
	"iter"
	"slices"

	"quadrupole/api"
)

// levels is how many voltages one electrode can have.
const levels = 2*api.MaxVolt + 1

// voltages goes through all voltages of so many electrodes, in ascending order. Each of them is new memory, so that it can be kept.
func voltages(wires int) iter.Seq[[]int] {
	return func(yield func([]int) bool) {
		count := 1
		for range wires {
			count *= levels
		}
		for number := range count {
			if !yield(numbered(number, wires)) {
				return
			}
		}
	}
}

// numbered returns the voltages with a number from 0 on: its digits, with one for each electrode, tell how far these are above the lowest voltage.
func numbered(number, wires int) []int {
	volts := make([]int, wires)
	for wire := wires - 1; wire >= 0; wire-- {
		volts[wire] = number%levels - api.MaxVolt
		number /= levels
	}
	return volts
}

// makers goes through the voltages whose field is a wish, in ascending order.
func makers(gains [][]int, wish []int) iter.Seq[[]int] {
	return func(yield func([]int) bool) {
		for volts := range voltages(wiresOf(gains)) {
			if slices.Equal(fieldOf(gains, volts), wish) && !yield(volts) {
				return
			}
		}
	}
}

// size returns the greatest absolute value of voltages.
func size(volts []int) int {
	return jumpOf(volts, make([]int, len(volts)))
}

// CheckVolts checks that the field of the voltages is the wish.
func CheckVolts(gains [][]int, wish, volts []int) api.Errno {
	if e := validateWish(gains, wish); e != api.OK {
		return e
	}
	if e := validateNumbers(volts, wiresOf(gains), api.MaxVolt); e != api.OK {
		return e
	}
	if !slices.Equal(fieldOf(gains, volts), wish) {
		return api.ErrProof
	}
	return api.OK
}

// Volts returns voltages whose field is the wish: the first ones.
func Volts(gains [][]int, wish []int) ([]int, bool, api.Errno) {
	if e := validateWish(gains, wish); e != api.OK {
		return nil, false, e
	}
	for volts := range makers(gains, wish) {
		return volts, true, api.OK
	}
	return nil, false, api.OK
}

// Ways returns how many voltages there are whose field is the wish.
func Ways(gains [][]int, wish []int) (int, api.Errno) {
	if e := validateWish(gains, wish); e != api.OK {
		return 0, e
	}
	count := 0
	for range makers(gains, wish) {
		count++
	}
	return count, api.OK
}

// Fields returns how many different fields there are.
func Fields(gains [][]int) (int, api.Errno) {
	if e := Validate(gains); e != api.OK {
		return 0, e
	}
	fields := map[[api.MaxPoints]int]bool{}
	for volts := range voltages(wiresOf(gains)) {
		var field [api.MaxPoints]int // all fields have equally many points, so that the rest may be 0
		copy(field[:], fieldOf(gains, volts))
		fields[field] = true
	}
	return len(fields), api.OK
}

// Quiet returns the first voltages that are not all 0 and whose field is 0 everywhere.
func Quiet(gains [][]int) ([]int, bool, api.Errno) {
	if e := Validate(gains); e != api.OK {
		return nil, false, e
	}
	for volts := range makers(gains, make([]int, len(gains))) {
		if size(volts) > 0 {
			return volts, true, api.OK
		}
	}
	return nil, false, api.OK
}

// Calmest returns the smallest one of the greatest absolute values of the voltages whose field is the wish.
func Calmest(gains [][]int, wish []int) (int, bool, api.Errno) {
	if e := validateWish(gains, wish); e != api.OK {
		return 0, false, e
	}
	least, found := 0, false
	for volts := range makers(gains, wish) {
		if greatest := size(volts); !found || greatest < least {
			least, found = greatest, true
		}
	}
	return least, found, api.OK
}

// Nearest returns how near a field can come to the wish, and the first voltages whose field comes so near.
func Nearest(gains [][]int, wish []int) (int, []int, api.Errno) {
	if e := validateWish(gains, wish); e != api.OK {
		return 0, nil, e
	}
	var nearest []int
	least := 0
	for volts := range voltages(wiresOf(gains)) {
		if far := farthest(fieldOf(gains, volts), wish, distance); nearest == nil || far < least {
			least, nearest = far, volts
		}
	}
	return least, nearest, api.OK
}
