package integer

import "cmp"

// A limb holds limbDigits decimal digits, so that texts are read and written without divisions of the whole number.
const (
	base       = 1000000000
	limbDigits = 9
)

// The functions of this file work on absolute values: limbs from the lowest to the highest one, which is not 0.

func trim(a []uint32) []uint32 {
	n := len(a)
	for n > 0 && a[n-1] == 0 {
		n--
	}
	return a[:n]
}

func copied(a []uint32) []uint32 {
	c := make([]uint32, len(a))
	copy(c, a)
	return c
}

func compare(a, b []uint32) int {
	if len(a) != len(b) {
		return cmp.Compare(len(a), len(b))
	}
	for i := len(a) - 1; i >= 0; i-- {
		if a[i] != b[i] {
			return cmp.Compare(a[i], b[i])
		}
	}
	return 0
}

func add(a, b []uint32) []uint32 {
	if len(a) < len(b) {
		a, b = b, a
	}
	sum := make([]uint32, len(a)+1)
	copy(sum, a)
	addTo(sum, b)
	return trim(sum)
}

// addTo adds b to sum, which has at least as many limbs. A carry beyond them is lost.
func addTo(sum, b []uint32) {
	carry := uint32(0)
	for i := range sum {
		t := sum[i] + carry
		if i < len(b) {
			t += b[i]
		}
		carry = t / base
		sum[i] = t % base
	}
}

// subtract returns a - b, where a is at least b.
func subtract(a, b []uint32) []uint32 {
	difference := copied(a)
	borrow := uint32(0)
	for i := range difference {
		t := borrow
		if i < len(b) {
			t += b[i]
		}
		borrow = 0
		if difference[i] < t {
			difference[i] += base
			borrow = 1
		}
		difference[i] -= t
	}
	return trim(difference)
}

func multiply(a, b []uint32) []uint32 {
	product := make([]uint32, len(a)+len(b))
	for i, x := range a {
		carry := uint64(0)
		for j, y := range b {
			t := uint64(x)*uint64(y) + uint64(product[i+j]) + carry
			product[i+j] = uint32(t % base)
			carry = t / base
		}
		product[i+len(b)] = uint32(carry)
	}
	return trim(product)
}
