package allocate

import (
	"cmp"
	"slices"
)

// largestRemainders returns the split of a total that is not negative, by weights with the sum weight.
func largestRemainders(total int, weights []int, weight int) []int {
	parts, remainders := make([]int, len(weights)), make([]int, len(weights))
	left := total
	for i, w := range weights {
		// The greatest total times the greatest weight is an int.
		parts[i], remainders[i] = total*w/weight, total*w%weight
		left -= parts[i]
	}
	// What is left is less than the number of remainders that are not 0, as it is their sum, divided by weight.
	for _, i := range descending(remainders)[:left] {
		parts[i]++
	}
	return parts
}

// descending returns the indices of integers, those of the greatest ones first, and of equal ones in their order.
func descending(l []int) []int {
	order := make([]int, len(l))
	for i := range order {
		order[i] = i
	}
	slices.SortStableFunc(order, func(i, j int) int { return cmp.Compare(l[j], l[i]) })
	return order
}

func negated(l []int) []int {
	opposite := make([]int, len(l))
	for i, n := range l {
		opposite[i] = -n
	}
	return opposite
}

// isNear reports whether an integer differs from a quotient with a positive denominator by less than 1, to either side.
func isNear(n, num, den int) bool {
	whole, rest := num/den, num%den
	switch {
	case rest > 0:
		return n == whole || n == whole+1
	case rest < 0:
		return n == whole || n == whole-1
	}
	return n == whole
}
