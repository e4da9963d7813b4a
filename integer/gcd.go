package integer

import "math/bits"

// wordLimbs is the number of limbs that always fit into a word of 64 bits.
const wordLimbs = 2

// commonDivisor returns the greatest common divisor of absolute values, in new memory.
func commonDivisor(a, b []uint32) []uint32 {
	if compare(a, b) < 0 {
		a, b = b, a
	}
	for len(b) > wordLimbs {
		a, b = reduce(a, b)
	}
	if len(b) == 0 {
		return copied(a)
	}
	_, r := divide(a, b)
	return limbsOf(commonWordDivisor(wordOf(b), wordOf(r)))
}

func commonWordDivisor(a, b uint64) uint64 {
	for b != 0 {
		a, b = b, a%b
	}
	return a
}

// steps are some steps of Euclid's algorithm: they lead from the numbers a and b to s[0] a + s[1] b and s[2] a + s[3] b.
type steps [4]int64

// reduce returns the numbers to which one or more steps of Euclid's algorithm lead from a and b, where a is at least b,
// and b has more than wordLimbs limbs. Doing many steps at once (Lehmer's algorithm) is about ten times as fast.
func reduce(a, b []uint32) (c, d []uint32) {
	s := safeSteps(a, b)
	if s == (steps{1, 0, 0, 1}) {
		_, r := divide(a, b)
		return b, r
	}
	return combine(a, b, s[0], s[1]), combine(a, b, s[2], s[3])
}

// safeSteps returns the steps that are the same for all numbers with the leading digits of a and b, perhaps none. As
// these digits are numbers below base * base, the absolute values in the steps are below base.
func safeSteps(a, b []uint32) steps {
	scale := uint64(a[len(a)-1]) + 1
	x, y := leading(a, len(a), scale), leading(b, len(a), scale)
	s := steps{1, 0, 0, 1}
	for y+s[2] > 0 && y+s[3] > 0 {
		q := (x + s[0]) / (y + s[2])
		if q != (x+s[1])/(y+s[3]) {
			break
		}
		s = steps{s[2], s[3], s[0] - q*s[2], s[1] - q*s[3]}
		x, y = y, x-q*y
	}
	return s
}

// leading returns the number of the three limbs below the index n, divided by scale, which is greater than the highest
// of them.
func leading(a []uint32, n int, scale uint64) int64 {
	high, low := bits.Mul64(limbAt(a, n-1)*base+limbAt(a, n-2), base)
	low, carry := bits.Add64(low, limbAt(a, n-3), 0)
	quotient, _ := bits.Div64(high+carry, low, scale)
	return int64(quotient)
}

func limbAt(a []uint32, i int) uint64 {
	if i < len(a) {
		return uint64(a[i])
	}
	return 0
}

// combine returns p a + q b, which is from 0 to a.
func combine(a, b []uint32, p, q int64) []uint32 {
	sum := make([]uint32, len(a))
	carry := int64(0)
	for i := range sum {
		t := p*int64(a[i]) + q*int64(limbAt(b, i)) + carry
		carry = t / base
		t %= base
		if t < 0 {
			t += base
			carry--
		}
		sum[i] = uint32(t)
	}
	return trim(sum)
}
