package integer

// divide returns the quotient of a and b, which is not 0, and the remainder.
func divide(a, b []uint32) (quotient, remainder []uint32) {
	if compare(a, b) < 0 {
		return nil, copied(a)
	}
	if len(b) == 1 {
		return divideByLimb(a, b[0])
	}
	return divideLong(a, b)
}

func divideByLimb(a []uint32, b uint32) (quotient, remainder []uint32) {
	quotient = copied(a)
	rest := uint64(0)
	for i := len(quotient) - 1; i >= 0; i-- {
		t := rest*base + uint64(quotient[i])
		quotient[i] = uint32(t / uint64(b))
		rest = t % uint64(b)
	}
	return trim(quotient), trim([]uint32{uint32(rest)})
}

// divideLong divides by at least two limbs, as one does on paper. Both numbers are multiplied by the same factor before,
// so that the highest limb of the divisor is at least base / 2: estimates of the digits are then 1 too high at most.
func divideLong(a, b []uint32) (quotient, remainder []uint32) {
	factor := []uint32{base / (b[len(b)-1] + 1)}
	divisor := multiply(b, factor)
	rest := make([]uint32, len(a)+1)
	copy(rest, multiply(a, factor))
	quotient = make([]uint32, len(a)-len(b)+1)
	for i := len(quotient) - 1; i >= 0; i-- {
		part := rest[i : i+len(divisor)+1]
		digit := estimate(part, divisor)
		if !subtractMultiple(part, divisor, digit) {
			// The carry that is lost here is the power of the base that the subtraction left.
			digit--
			addTo(part, divisor)
		}
		quotient[i] = uint32(digit)
	}
	remainder, _ = divideByLimb(trim(rest), factor[0])
	return trim(quotient), remainder
}

// estimate returns the quotient of the three highest limbs of part and the two highest ones of the divisor. It begins
// with that of two limbs and one, which is hardly greater, and fits into a word.
func estimate(part, divisor []uint32) uint64 {
	n := len(divisor)
	high := uint64(part[n])*base + uint64(part[n-1])
	first, second := uint64(divisor[n-1]), uint64(divisor[n-2])
	digit, rest := high/first, high%first
	for digit*second > rest*base+uint64(part[n-2]) {
		digit--
		rest += first
	}
	return digit
}

// subtractMultiple subtracts digit times the divisor from part. If the difference is negative, it leaves the difference
// plus the next power of the base, and returns false.
func subtractMultiple(part, divisor []uint32, digit uint64) bool {
	carry := uint64(0)
	for i := range part {
		if i < len(divisor) {
			carry += digit * uint64(divisor[i])
		}
		t := uint32(carry % base)
		carry /= base
		if part[i] < t {
			part[i] += base
			carry++
		}
		part[i] -= t
	}
	return carry == 0
}
