package integer

import (
	"strconv"
	"strings"

	"tallystone/api"
)

const maxDigits = 2000

// Parse returns the integer with a decimal text.
func Parse(s string) (Int, api.Errno) {
	digits, negative := strings.CutPrefix(s, "-")
	if !isNumber(digits) || negative && digits == "0" {
		return Int{}, api.ErrSyntax
	}
	if len(digits) > maxDigits {
		return Int{}, api.ErrLimit
	}
	return signed(negative, readDigits(digits)), api.OK
}

// isNumber reports whether a text consists of digits, the first of which is 0 only if it is the only one.
func isNumber(digits string) bool {
	for _, c := range digits {
		if c < '0' || c > '9' {
			return false
		}
	}
	return digits == "0" || digits != "" && digits[0] != '0'
}

func readDigits(digits string) []uint32 {
	limbs := make([]uint32, (len(digits)+limbDigits-1)/limbDigits)
	for i, c := range digits {
		k := (len(digits) - 1 - i) / limbDigits
		limbs[k] = limbs[k]*10 + uint32(c-'0')
	}
	return trim(limbs)
}

// Text returns the decimal text of an integer.
func Text(x Int) string {
	if len(x.limbs) == 0 {
		return "0"
	}
	text := make([]byte, 0, len(x.limbs)*limbDigits+1)
	if x.negative {
		text = append(text, '-')
	}
	last := len(x.limbs) - 1
	text = strconv.AppendUint(text, uint64(x.limbs[last]), 10)
	for i := last - 1; i >= 0; i-- {
		text = appendLimb(text, x.limbs[i])
	}
	return string(text)
}

// appendLimb appends all digits of a limb, also the zeros at its beginning.
func appendLimb(text []byte, limb uint32) []byte {
	for unit := uint32(base / 10); unit > 0; unit /= 10 {
		text = append(text, byte('0'+limb/unit%10))
	}
	return text
}
