package allocate_test

import (
	"math"
	"testing"

	"tallystone/allocate"
	"tallystone/api"
)

// extremes returns integers at, next to and far beyond all limits of the layer, and small ones.
func extremes() []int {
	l := []int{math.MinInt, math.MinInt + 1, math.MaxInt - 1, math.MaxInt, 0}
	for _, limit := range []int{1, 1000, 1000000, most, 1 << 62} {
		l = append(l, limit-1, limit, limit+1, -limit-1, -limit, -limit+1)
	}
	return l
}

// P1, P5.1: every function answers whatever its arguments are, with no other result beside an error.
func TestTotality(t *testing.T) {
	wantNone := func(l []int, length int, e api.Errno) {
		t.Helper()
		if e != api.OK {
			length = 0
		}
		if len(l) != length {
			t.Errorf("%d, error %d", l, e)
		}
	}
	for _, a := range extremes() {
		for _, b := range extremes() {
			l, e := allocate.Even(a, b)
			wantNone(l, b, e)
			l, e = allocate.Running(nil, a, b)
			wantNone(l, 0, e)
			allocate.Fair(a, []int{b}, []int{a})
			for _, c := range extremes() {
				l, e = allocate.Running([]int{a, c}, b, c)
				wantNone(l, 2, e)
				l, e = allocate.Running([]int{c, a, b}, 1, 2)
				wantNone(l, 3, e)
				l, e = allocate.Split(a, []int{b, c})
				wantNone(l, 2, e)
				allocate.Fair(a, []int{1, b}, []int{c, a})
				allocate.Fair(b, []int{1, 1}, []int{a, c})
			}
		}
	}
}
