package integer

import (
	"slices"
	"testing"
)

// spoil overwrites the memory of an integer, as no caller can.
func spoil(x Int) {
	for i := range x.limbs[:cap(x.limbs)] {
		x.limbs[:cap(x.limbs)][i] = 7
	}
}

// Results share no memory with arguments or with each other, also where they are equal to them.
func TestResultsAreNewMemory(t *testing.T) {
	long := Mul(Of(123456789012345678), Mul(Of(987654321098765432), Of(1<<62)))
	numbers := []Int{{}, Of(1), Of(-5), Of(999999999999), long, Neg(long), Mul(long, long)}
	for _, x := range numbers {
		for _, y := range numbers {
			quotient, remainder, _ := QuoRem(x, y)
			results := []Int{Add(x, y), Sub(x, y), Mul(x, y), Neg(x), GCD(x, y), quotient, remainder}
			for i, result := range results {
				before := Text(x) + " " + Text(y)
				rest := texts(results[i+1:])
				spoil(result)
				if Text(x)+" "+Text(y) != before || !slices.Equal(texts(results[i+1:]), rest) {
					t.Fatal("shared memory", i, before)
				}
			}
		}
	}
}

func texts(numbers []Int) []string {
	var s []string
	for _, x := range numbers {
		s = append(s, Text(x))
	}
	return s
}
