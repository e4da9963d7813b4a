package decimal

import (
	"tallystone/api"
)

// The modes of rounding.
const (
	HalfAway = iota // to the nearest integer, halves away from zero
	HalfEven        // to the nearest integer, halves to the even one
	Down            // towards zero
	Up              // away from zero
	Floor           // to the next integer that is not greater
	Ceiling         // to the next integer that is not less
)

// maxTerm is the greatest absolute value of a numerator or denominator. Twice of it is an int.
const maxTerm = 1000000000000000000

// Round returns a rounded quotient.
func Round(num, den, mode int) (int, api.Errno) {
	switch {
	case !isMode(mode):
		return 0, api.ErrArg
	case !isTerm(num) || !isTerm(den):
		return 0, api.ErrRange
	case den == 0:
		return 0, api.ErrDivide
	}
	return rounded(num, den, mode), api.OK
}

// Rescale returns a decimal number with another scale.
func Rescale(n, from, to, mode int) (int, api.Errno) {
	switch {
	case !isMode(mode) || !isScale(to):
		return 0, api.ErrArg
	case !Valid(n, from):
		return 0, api.ErrRange
	case to < from:
		return rounded(n, power(from-to), mode), api.OK
	}
	factor := power(to - from)
	// The product itself may be no int.
	if most := MaxNumber / factor; n < -most || n > most {
		return 0, api.ErrRange
	}
	return n * factor, api.OK
}

// Quantize returns the multiple of a step to which a number is rounded.
func Quantize(n, step, mode int) (int, api.Errno) {
	switch {
	case !isMode(mode):
		return 0, api.ErrArg
	case !Valid(n, 0) || !Valid(step, 0) || step <= 0:
		return 0, api.ErrRange
	}
	return rounded(n, step, mode) * step, api.OK
}

// isTerm reports whether a number may be a numerator or denominator.
func isTerm(n int) bool {
	return -maxTerm <= n && n <= maxTerm
}

func isMode(mode int) bool {
	return 0 <= mode && mode < len(modes())
}

// rounded returns a quotient, rounded in a mode.
func rounded(num, den, mode int) int {
	return modes()[mode](divide(num, den))
}

// modes returns the function of each mode.
func modes() [Ceiling + 1]func(quotient) int {
	return [...]func(quotient) int{
		HalfAway: quotient.halfAway,
		HalfEven: quotient.halfEven,
		Down:     quotient.down,
		Up:       quotient.up,
		Floor:    quotient.floor,
		Ceiling:  quotient.ceiling,
	}
}

// quotient is the absolute value of a quotient, and its sign: the whole part, and the rest of a division by den.
type quotient struct {
	isNegative       bool
	whole, rest, den int
}

func divide(num, den int) quotient {
	isNegative := (num < 0) != (den < 0)
	num, den = max(num, -num), max(den, -den)
	return quotient{isNegative, num / den, num % den, den}
}

// signed returns the integer with the sign of the quotient and an absolute value.
func (q quotient) signed(absolute int) int {
	if q.isNegative {
		return -absolute
	}
	return absolute
}

func (q quotient) down() int {
	return q.signed(q.whole)
}

func (q quotient) up() int {
	if q.rest == 0 {
		return q.signed(q.whole)
	}
	return q.signed(q.whole + 1)
}

func (q quotient) floor() int {
	if q.isNegative {
		return q.up()
	}
	return q.down()
}

func (q quotient) ceiling() int {
	if q.isNegative {
		return q.down()
	}
	return q.up()
}

func (q quotient) halfAway() int {
	if 2*q.rest < q.den {
		return q.down()
	}
	return q.up()
}

func (q quotient) halfEven() int {
	if isHalf := 2*q.rest == q.den; isHalf && q.whole%2 == 0 {
		return q.down()
	}
	return q.halfAway()
}
