package num

import (
	"math/bits"

	"jointure/api"
)

const (
	mostBytes  = 32 // of a number
	mostDigits = 78 // of 2^256 - 1
)

// Bytes: the highest byte first, without noughts ahead.
func Bytes(a api.Num) []byte {
	var p []byte
	for _, part := range downward(a) {
		for shift := 56; shift >= 0; shift -= 8 {
			b := byte(part >> shift)
			if len(p) > 0 || b != 0 {
				p = append(p, b)
			}
		}
	}
	return p
}

// Read: the number of these bytes. ErrForm: there are more than 32, or the first one is 0.
func Read(p []byte) (api.Num, api.Errno) {
	if len(p) > mostBytes || len(p) > 0 && p[0] == 0 {
		return api.Num{}, api.ErrForm
	}
	var a api.Num
	for i, b := range p {
		place := len(p) - 1 - i
		a[place/8] |= uint64(b) << (place % 8 * 8)
	}
	return a, api.OK
}

// Text: decimal, without noughts ahead.
func Text(a api.Num) string {
	var digits [mostDigits]byte
	first := len(digits)
	for {
		var digit uint64
		a, digit = byTen(a)
		first--
		digits[first] = '0' + byte(digit)
		if a == (api.Num{}) {
			return string(digits[first:])
		}
	}
}

// Parse: the number of which s is the Text. ErrForm: it is none's; ErrOver: that is more than 2^256 - 1.
func Parse(s string) (api.Num, api.Errno) {
	if s == "" || s[0] == '0' && s != "0" {
		return api.Num{}, api.ErrForm
	}
	var a api.Num
	var over uint64
	for _, r := range s {
		if r < '0' || r > '9' {
			return api.Num{}, api.ErrForm
		}
		// Once it is over, the rest is gone through all the same: a wrong byte in it is named first.
		if over == 0 {
			a, over = scale(a, 10, uint64(r-'0'))
		}
	}
	if over != 0 {
		return api.Num{}, api.ErrOver
	}
	return a, api.OK
}

// byTen is a by 10, rounded down, and the digit that is left.
func byTen(a api.Num) (quotient api.Num, digit uint64) {
	for i, part := range downward(a) {
		quotient[i], digit = bits.Div64(digit, part, 10)
	}
	return quotient, digit
}
