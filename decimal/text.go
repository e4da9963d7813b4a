package decimal

import (
	"strconv"
	"strings"

	"tallystone/api"
)

// Text returns the text of a decimal number.
func Text(n, scale int) string {
	if !Valid(n, scale) {
		return ""
	}
	digits, isNegative := strings.CutPrefix(strconv.Itoa(n), "-")
	if missing := scale + 1 - len(digits); missing > 0 {
		digits = strings.Repeat("0", missing) + digits
	}
	text := digits[:len(digits)-scale]
	if scale > 0 {
		text += "." + digits[len(digits)-scale:]
	}
	if isNegative {
		text = "-" + text
	}
	return text
}

// Parse returns the decimal number with a scale that a text stands for.
func Parse(s string, scale int) (int, api.Errno) {
	if !isScale(scale) {
		return 0, api.ErrArg
	}
	if !isText(s) {
		return 0, api.ErrSyntax
	}
	whole, fraction, _ := strings.Cut(s, ".")
	if len(fraction) > scale {
		return 0, api.ErrRange
	}
	n, err := strconv.Atoi(whole + fraction + strings.Repeat("0", scale-len(fraction)))
	if err != nil || !Valid(n, scale) {
		return 0, api.ErrRange
	}
	return n, api.OK
}

// isText reports whether a text stands for a decimal number, with any number of digits.
func isText(s string) bool {
	unsigned, isNegative := strings.CutPrefix(s, "-")
	whole, fraction, hasPoint := strings.Cut(unsigned, ".")
	switch {
	case !areDigits(whole) || hasPoint && !areDigits(fraction):
		return false
	case len(whole) > 1 && whole[0] == '0':
		return false
	}
	return !isNegative || strings.ContainsAny(unsigned, "123456789")
}

// areDigits reports whether a text consists of one or more digits.
func areDigits(s string) bool {
	return s != "" && strings.Trim(s, "0123456789") == ""
}
