package budget

import (
	"cmp"

	"quadrupole/api"
)

// fraction is a fraction with a Den above 0, not necessarily in lowest terms.
type fraction api.Rat

// lowest returns x in lowest terms.
func (x fraction) lowest() fraction {
	a, b := x.Den, x.Num
	for b != 0 {
		a, b = b, a%b
	}
	return fraction{x.Num / a, x.Den / a}
}

// plus returns the sum in lowest terms, which keeps long sums small.
func (x fraction) plus(y fraction) fraction {
	return fraction{x.Num*y.Den + y.Num*x.Den, x.Den * y.Den}.lowest()
}

// times returns the product in lowest terms.
func (x fraction) times(y fraction) fraction {
	return fraction{x.Num * y.Num, x.Den * y.Den}.lowest()
}

// rest returns what is left of 1 without x, which is at most 1.
func (x fraction) rest() fraction {
	return fraction{x.Den - x.Num, x.Den}.lowest()
}

// compare returns a number below 0 if x is less than y, 0 if they are equal, and a number above 0 if x is greater.
func (x fraction) compare(y fraction) int {
	return cmp.Compare(x.Num*y.Den, y.Num*x.Den)
}

func (x fraction) less(y fraction) bool {
	return x.compare(y) < 0
}
