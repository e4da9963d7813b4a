package date

import "tallystone/api"

// Text returns the text of a date.
func Text(date int) string {
	y, m, d, e := Civil(date)
	if e != api.OK {
		return ""
	}
	return digits(y, 4) + "-" + digits(m, 2) + "-" + digits(d, 2)
}

// Parse returns the date with a text.
func Parse(s string) (int, api.Errno) {
	if !isText(s) {
		return 0, api.ErrSyntax
	}
	return Of(number(s[:4]), number(s[5:7]), number(s[8:]))
}

// isText reports whether a text has the form of that of a date, whether or not there is such a date.
func isText(s string) bool {
	return len(s) == 10 && areDigits(s[:4]) && s[4] == '-' && areDigits(s[5:7]) && s[7] == '-' && areDigits(s[8:])
}

func areDigits(s string) bool {
	for i := range len(s) {
		if s[i] < '0' || s[i] > '9' {
			return false
		}
	}
	return true
}

// digits returns a number as a text with a fixed number of digits.
func digits(n, length int) string {
	text := make([]byte, length)
	for i := length - 1; i >= 0; i-- {
		text[i] = byte('0' + n%10)
		n /= 10
	}
	return string(text)
}

// number returns the number that a text of digits stands for.
func number(text string) int {
	n := 0
	for i := range len(text) {
		n = 10*n + int(text[i]-'0')
	}
	return n
}
