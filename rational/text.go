package rational

import (
	"strings"

	"tallystone/api"
	"tallystone/integer"
)

// Parse returns the number with a text.
func Parse(s string) (Rat, api.Errno) {
	numerator, denominator, isQuotient := strings.Cut(s, "/")
	areIntegers, areShort := true, true
	part := func(text string) integer.Int {
		x, e := integer.Parse(text)
		areIntegers = areIntegers && e != api.ErrSyntax
		areShort = areShort && e != api.ErrLimit
		return x
	}
	num, den := part(numerator), integer.Of(1)
	if isQuotient {
		den = part(denominator)
	}
	switch {
	case !areIntegers || isQuotient && !inLowestTerms(numerator, denominator):
		return Rat{}, api.ErrSyntax
	case !areShort:
		return Rat{}, api.ErrLimit
	}
	return Rat{num, den}, api.OK
}

// inLowestTerms reports whether the integers with two texts, of any length, are the numerator and the denominator of a
// number that is not an integer.
func inLowestTerms(num, den string) bool {
	if den == "0" || den == "1" || strings.HasPrefix(den, "-") {
		return false
	}
	return coprime(strings.TrimPrefix(num, "-"), den)
}

// coprime reports whether the integers with some digits have no common divisor but 1. It reads the longer one only
// modulo the other one, so that the time for a long one beside a short one is not the square of its length.
func coprime(a, b string) bool {
	if len(a) < len(b) {
		a, b = b, a
	}
	y := read(b, func(n integer.Int) integer.Int { return n })
	x := read(a, func(n integer.Int) integer.Int {
		_, rest, _ := integer.QuoRem(n, y)
		return rest
	})
	return integer.Cmp(integer.GCD(x, y), integer.Of(1)) == 0
}

// read returns the integer with some digits. As integer.Parse does not read long texts, it reads one part after the
// other, and calls shrink for the number that it has after each of them.
func read(digits string, shrink func(integer.Int) integer.Int) integer.Int {
	const longest = 1000
	x := integer.Int{}
	for len(digits) > 0 {
		n := min(len(digits), longest)
		power := readPart("1" + strings.Repeat("0", n))
		x = shrink(integer.Add(integer.Mul(x, power), readPart(digits[:n])))
		digits = digits[n:]
	}
	return x
}

// readPart returns the integer with some digits, the first of which may be zeros. It is 0 if all of them are.
func readPart(digits string) integer.Int {
	x, _ := integer.Parse(strings.TrimLeft(digits, "0"))
	return x
}

// Text returns the text of a number.
func Text(x Rat) string {
	num, den := x.terms()
	if integer.Cmp(den, integer.Of(1)) == 0 {
		return integer.Text(num)
	}
	return integer.Text(num) + "/" + integer.Text(den)
}
