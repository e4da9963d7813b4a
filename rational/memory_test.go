package rational_test

import (
	"reflect"
	"slices"
	"testing"

	"tallystone/integer"
	"tallystone/rational"
)

// memory returns the addresses of the slices in a value.
func memory(v reflect.Value) []uintptr {
	var addresses []uintptr
	switch v.Kind() {
	case reflect.Struct:
		for i := range v.NumField() {
			addresses = append(addresses, memory(v.Field(i))...)
		}
	case reflect.Slice:
		if v.Cap() > 0 {
			addresses = append(addresses, v.Pointer())
		}
	}
	return addresses
}

// Results share no memory with arguments or with each other, also where they are equal to them.
func TestResultsAreNewMemory(t *testing.T) {
	for _, s := range []string{"0", "7", "-1/2", "22/7", "-1/340282366920938463463374607431768211456"} {
		x, one := parse(t, s), of(t, 1, 1)
		num, den := rational.Parts(x)
		made, _ := rational.New(num, den)
		values := []any{
			x, num, den, made, rational.Neg(x), one, rational.Round(x), rational.Add(x, rational.Rat{}), rational.Sub(x, rational.Rat{}),
			rational.Mul(x, one), quotient(t, x, one), rational.Round(parse(t, "7")), integer.Of(7),
		}
		var addresses []uintptr
		for _, v := range values {
			addresses = append(addresses, memory(reflect.ValueOf(v))...)
		}
		slices.Sort(addresses)
		if n := len(addresses); len(slices.Compact(addresses)) < n {
			t.Errorf("shared memory in results for %s", s)
		}
	}
}
