package money

import (
	"strconv"
	"strings"

	"tallystone/api"
)

// maxText is the greatest number of characters of a text. Texts in form that are longer have no amount.
const maxText = 30

// Text returns the text of an amount.
func Text(n int) string {
	if !Valid(n) {
		return ""
	}
	whole, rest := abs(n)/100, abs(n)%100
	// The hundred in front keeps both digits of the rest.
	text := strconv.Itoa(whole) + "." + strconv.Itoa(100 + rest)[1:]
	if n < 0 {
		text = "-" + text
	}
	return text
}

// Parse returns the amount with a text.
func Parse(s string) (int, api.Errno) {
	if !isInForm(s) {
		return 0, api.ErrSyntax
	}
	if len(s) > maxText {
		return 0, api.ErrRange
	}
	point := len(s) - 3
	n, err := strconv.Atoi(s[:point] + s[point+1:])
	if err != nil {
		return 0, api.ErrRange
	}
	return amount(n)
}

// isInForm reports whether a text is that of an integer, which may be too great for an amount.
func isInForm(s string) bool {
	unsigned, isNegative := strings.CutPrefix(s, "-")
	whole, rest, _ := strings.Cut(unsigned, ".")
	switch {
	case !areDigits(whole) || !areDigits(rest) || len(rest) != 2:
		return false
	case len(whole) > 1 && whole[0] == '0':
		return false
	}
	return !isNegative || unsigned != "0.00"
}

// areDigits reports whether a text consists of one or more digits.
func areDigits(s string) bool {
	return s != "" && strings.Trim(s, "0123456789") == ""
}
