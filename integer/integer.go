// Package integer is layer 1: see shared/doc/01-integer.md.
package integer

import (
	"math"

	"tallystone/api"
)

// Int is an integer of any length: its sign and the limbs of its absolute value. 0 has no limbs and is not negative.
type Int struct {
	negative bool
	limbs    []uint32
}

func signed(negative bool, limbs []uint32) Int {
	return Int{negative: negative && len(limbs) > 0, limbs: limbs}
}

// Of returns the integer n.
func Of(n int) Int {
	if n < 0 {
		// Also right for the least int, whose absolute value is no int.
		return signed(true, limbsOf(-uint64(n)))
	}
	return signed(false, limbsOf(uint64(n)))
}

func limbsOf(word uint64) []uint32 {
	var limbs []uint32
	for ; word > 0; word /= base {
		limbs = append(limbs, uint32(word%base))
	}
	return limbs
}

// wordOf returns the number with some limbs, if it is less than 2^64.
func wordOf(limbs []uint32) uint64 {
	word := uint64(0)
	for i := len(limbs) - 1; i >= 0; i-- {
		word = word*base + uint64(limbs[i])
	}
	return word
}

// Small returns an integer as an int, if it is in its range.
func Small(x Int) (int, bool) {
	if Cmp(x, Of(math.MinInt)) < 0 || Cmp(x, Of(math.MaxInt)) > 0 {
		return 0, false
	}
	if x.negative {
		return int(-wordOf(x.limbs)), true
	}
	return int(wordOf(x.limbs)), true
}

// Sign returns the sign of an integer.
func Sign(x Int) int {
	switch {
	case x.negative:
		return -1
	case len(x.limbs) > 0:
		return 1
	}
	return 0
}

// Cmp compares two integers.
func Cmp(x, y Int) int {
	switch {
	case x.negative && y.negative:
		return compare(y.limbs, x.limbs)
	case x.negative:
		return -1
	case y.negative:
		return 1
	}
	return compare(x.limbs, y.limbs)
}

// Neg returns the negated integer.
func Neg(x Int) Int {
	return signed(!x.negative, copied(x.limbs))
}

// Add returns the sum.
func Add(x, y Int) Int {
	if x.negative == y.negative {
		return signed(x.negative, add(x.limbs, y.limbs))
	}
	if compare(x.limbs, y.limbs) < 0 {
		x, y = y, x
	}
	return signed(x.negative, subtract(x.limbs, y.limbs))
}

// Sub returns the difference.
func Sub(x, y Int) Int {
	return Add(x, Neg(y))
}

// Mul returns the product.
func Mul(x, y Int) Int {
	return signed(x.negative != y.negative, multiply(x.limbs, y.limbs))
}

// QuoRem returns the truncated quotient and the remainder.
func QuoRem(x, y Int) (q, r Int, e api.Errno) {
	if len(y.limbs) == 0 {
		return Int{}, Int{}, api.ErrDivide
	}
	quotient, remainder := divide(x.limbs, y.limbs)
	return signed(x.negative != y.negative, quotient), signed(x.negative, remainder), api.OK
}

// GCD returns the greatest common divisor.
func GCD(x, y Int) Int {
	return signed(false, commonDivisor(x.limbs, y.limbs))
}
