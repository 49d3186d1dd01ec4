// Package num is layer 1: whole numbers of many digits, as decimal texts: see shared/doc/01-num.md.
package num

import (
	"strconv"
	"strings"

	"purlin/api"
)

// Good: is it a number?
func Good(a string) bool {
	digits := strings.TrimPrefix(a, "-")
	if len(digits) == 0 || len(digits) > api.MaxDigits {
		return false
	}
	if digits[0] == '0' {
		return a == "0"
	}
	for i := range len(digits) {
		if digits[i] < '0' || digits[i] > '9' {
			return false
		}
	}
	return true
}

// Add: the sum.
func Add(a, b string) (string, api.Errno) { return combine(a, b, add) }

// Sub: the difference.
func Sub(a, b string) (string, api.Errno) { return combine(a, b, subtract) }

// Mul: the product.
func Mul(a, b string) (string, api.Errno) { return combine(a, b, multiply) }

// Div: the quotient, rounded towards 0, and the rest, which has a's sign.
func Div(a, b string) (string, string, api.Errno) {
	if !Good(a) || !Good(b) {
		return "", "", api.ErrForm
	}
	if b == "0" {
		return "", "", api.ErrZero
	}
	quotient, rest := divide(read(a), read(b))
	return quotient.text(), rest.text(), api.OK
}

// Cmp: -1, 0 or 1; 0, if one is no number.
func Cmp(a, b string) int {
	if !Good(a) || !Good(b) {
		return 0
	}
	return compare(read(a), read(b))
}

// Of: an int's text.
func Of(n int) string { return strconv.Itoa(n) }

// Int: the int of a number, if 64 bits hold it.
func Int(a string) (int, bool) {
	if !Good(a) {
		return 0, false
	}
	n, err := strconv.ParseInt(a, 10, 64)
	if err != nil {
		return 0, false
	}
	return int(n), true
}

// combine answers what operation makes of two numbers, where that is a number again.
func combine(a, b string, operation func(x, y whole) whole) (string, api.Errno) {
	if !Good(a) || !Good(b) {
		return "", api.ErrForm
	}
	answer := operation(read(a), read(b)).text()
	if !Good(answer) { // its form is right, so it has too many digits
		return "", api.ErrLong
	}
	return answer, api.OK
}
