// Package wide is layer 1: whole numbers from 0 to 2 to the power of 128, less 1. See shared/doc/01-wide.md.
package wide

import (
	"math"
	"math/bits"

	"theodolite/api"
)

// mostDigits is how many digits the greatest number has.
const mostDigits = 39

// Add is P1.1: the sum, or ErrWide.
func Add(a, b api.Wide) (api.Wide, api.Errno) {
	lo, carry := bits.Add64(a.Lo, b.Lo, 0)
	hi, carry := bits.Add64(a.Hi, b.Hi, carry)
	if carry != 0 {
		return api.Wide{}, api.ErrWide
	}
	return api.Wide{Hi: hi, Lo: lo}, api.OK
}

// Sub is P1.1: a less b, or ErrWide.
func Sub(a, b api.Wide) (api.Wide, api.Errno) {
	lo, borrow := bits.Sub64(a.Lo, b.Lo, 0)
	hi, borrow := bits.Sub64(a.Hi, b.Hi, borrow)
	if borrow != 0 {
		return api.Wide{}, api.ErrWide
	}
	return api.Wide{Hi: hi, Lo: lo}, api.OK
}

// Mul is P1.2: the product, for which a Wide always has room.
func Mul(a, b uint64) api.Wide {
	hi, lo := bits.Mul64(a, b)
	return api.Wide{Hi: hi, Lo: lo}
}

// Cmp is P1.3: -1, 0 or 1.
func Cmp(a, b api.Wide) int {
	switch {
	case a == b:
		return 0
	case a.Hi < b.Hi, a.Hi == b.Hi && a.Lo < b.Lo:
		return -1
	}
	return 1
}

// Sqrt is P1.4: the greatest number whose square is not above a.
func Sqrt(a api.Wide) uint64 {
	// The root is never below low nor above high.
	low, high := uint64(0), uint64(math.MaxUint64)
search:
	for low < high {
		// Rounded up, so that low rises even if high is only one above it.
		middle := high - (high-low)/2
		switch Cmp(Mul(middle, middle), a) {
		case 0:
			low = middle
			break search
		case 1:
			high = middle - 1
		default:
			low = middle
		}
	}
	return low
}

// Print is P1.5: the digits, without noughts in front.
func Print(a api.Wide) string {
	var digits [mostDigits]byte
	// The last digit is known first, so they are laid from the end on; 0 has one, too.
	at := len(digits) - 1
	rest, digit := byTen(a)
	digits[at] = '0' + digit
	for rest != (api.Wide{}) {
		at--
		rest, digit = byTen(rest)
		digits[at] = '0' + digit
	}
	return string(digits[at:])
}

// Parse is P1.5: the number that the digits say, ErrWideForm or ErrWide.
func Parse(s string) (api.Wide, api.Errno) {
	if !isForm(s) {
		return api.Wide{}, api.ErrWideForm
	}
	var a api.Wide
	for i := range len(s) {
		var e api.Errno
		a, e = withDigit(a, s[i]-'0')
		if e != api.OK {
			return api.Wide{}, e
		}
	}
	return a, api.OK
}

// byTen tells a divided by ten, rounded down, and the digit that is left.
func byTen(a api.Wide) (api.Wide, byte) {
	hi, left := a.Hi/10, a.Hi%10
	// left is below ten: without that Div64 would panic.
	lo, digit := bits.Div64(left, a.Lo, 10)
	return api.Wide{Hi: hi, Lo: lo}, byte(digit)
}

// withDigit tells the number whose digits are those of a and one more behind them.
func withDigit(a api.Wide, digit byte) (api.Wide, api.Errno) {
	top := Mul(a.Hi, 10)
	if top.Hi != 0 {
		return api.Wide{}, api.ErrWide
	}
	ten, e := Add(api.Wide{Hi: top.Lo}, Mul(a.Lo, 10))
	if e != api.OK {
		return api.Wide{}, e
	}
	return Add(ten, api.Wide{Lo: uint64(digit)})
}

// isForm tells whether s is written as Print writes numbers, be it a number that a Wide can say or not.
func isForm(s string) bool {
	if len(s) < 1 || len(s) > mostDigits {
		return false
	}
	if s[0] == '0' && len(s) > 1 {
		return false
	}
	for i := range len(s) {
		if s[i] < '0' || s[i] > '9' {
			return false
		}
	}
	return true
}
