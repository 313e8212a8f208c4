// Package num is layer 1: whole numbers that never go round, and their texts (shared/doc/01-num.md).
package num

import (
	"math"
	"strconv"
	"strings"

	"hallmoot/api"
)

// Add: the sum.
func Add(a, b int64) (int64, api.Errno) {
	if !allowed(a) || !allowed(b) {
		return 0, api.ErrOver
	}
	// Asked ahead of the sum, since MaxInt and MaxInt together are no int64.
	if !Within(a, -api.MaxInt-min(b, 0), api.MaxInt-max(b, 0)) {
		return 0, api.ErrOver
	}
	return a + b, api.OK
}

// Sub: the difference.
func Sub(a, b int64) (int64, api.Errno) {
	// Asked ahead of turning b's sign, since -MinInt64 is no int64.
	if !allowed(b) {
		return 0, api.ErrOver
	}
	return Add(a, -b)
}

// Mul: the product.
func Mul(a, b int64) (int64, api.Errno) {
	if !allowed(a) || !allowed(b) {
		return 0, api.ErrOver
	}
	// Asked by a division, since the product itself may be no int64.
	if a != 0 && size(b) > api.MaxInt/size(a) {
		return 0, api.ErrOver
	}
	return a * b, api.OK
}

// Sum: all of them.
func Sum(l ...int64) (int64, api.Errno) {
	sum := int64(0)
	for _, n := range l {
		next, e := Add(sum, n)
		if e != api.OK {
			return 0, e
		}
		sum = next
	}
	return sum, api.OK
}

// Within: is it from least to most?
func Within(n, least, most int64) bool { return least <= n && n <= most }

// Print: the text.
func Print(n int64) string { return strconv.FormatInt(n, 10) }

// Read: the number of a text.
func Read(s string, least, most int64) (int64, api.Errno) {
	digits, below := strings.CutPrefix(s, "-")
	// The form is asked of the whole text first: behind digits beyond any int64 may stand a wrong rune.
	if !plain(digits) || below && digits == "0" {
		return 0, api.ErrForm
	}
	n, fits := value(digits, below)
	if !fits || !Within(n, least, most) {
		return 0, api.ErrOver
	}
	return n, api.OK
}

// allowed: is it from -MaxInt to MaxInt?
func allowed(n int64) bool { return Within(n, -api.MaxInt, api.MaxInt) }

// size: the number without its sign, of one that is allowed.
func size(n int64) int64 { return max(n, -n) }

// plain: is the text digits, without a 0 ahead of others?
func plain(digits string) bool {
	if digits == "" || len(digits) > 1 && digits[0] == '0' {
		return false
	}
	for _, c := range digits {
		if c < '0' || c > '9' {
			return false
		}
	}
	return true
}

// value: the number of digits, if it is an int64.
func value(digits string, below bool) (int64, bool) {
	// It is gathered below 0, where there is one number more than above.
	n := int64(0)
	for _, c := range digits {
		digit := int64(c - '0')
		if n < (math.MinInt64+digit)/10 {
			return 0, false
		}
		n = n*10 - digit
	}
	if below {
		return n, true
	}
	if n == math.MinInt64 {
		return 0, false
	}
	return -n, true
}
