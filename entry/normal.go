package entry

import (
	"maps"
	"slices"

	"tallystone/api"
)

// Sum returns the sum of the amounts of lines. Sums on the way that are no int wrap around, which changes no sum that is one.
func Sum(lines []api.Line) int {
	sum := 0
	for _, l := range lines {
		sum += l.Amount
	}
	return sum
}

// Normal returns the normal form of lines.
func Normal(lines []api.Line) []api.Line {
	var normal []api.Line
	sums := sumsOf(lines)
	for _, key := range slices.SortedFunc(maps.Keys(sums), compare) {
		if sums[key] != 0 {
			normal = append(normal, api.Line{Account: key[0], Amount: sums[key], Partner: key[1]})
		}
	}
	return normal
}

// sumsOf returns the sum of the amounts for each account and partner.
func sumsOf(lines []api.Line) map[[2]int]int {
	sums := map[[2]int]int{}
	for _, l := range lines {
		sums[[2]int{l.Account, l.Partner}] += l.Amount
	}
	return sums
}

// compare orders pairs of an account and a partner.
func compare(a, b [2]int) int {
	return slices.Compare(a[:], b[:])
}
