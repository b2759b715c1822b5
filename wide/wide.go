// Package wide is layer 1: see shared/doc/01-wide.md.
package wide

import (
	"cmp"
	"math"
	"math/bits"

	"crossbuck/api"
)

// Count is a whole number from 0 to 2^128 - 1: High times 2^64, and Low.
type Count struct {
	High uint64
	Low  uint64
}

// size is how many digits the greatest count has.
const size = 39

// Of is a small count.
func Of(n uint64) Count { return Count{Low: n} }

// greatest is 2^128 - 1.
func greatest() Count { return Count{High: math.MaxUint64, Low: math.MaxUint64} }

// Add are two counts together, modulo 2^128.
func (c Count) Add(d Count) Count {
	low, carry := bits.Add64(c.Low, d.Low, 0)
	high, _ := bits.Add64(c.High, d.High, carry)
	return Count{High: high, Low: low}
}

// Sub is a count without another one, modulo 2^128.
func (c Count) Sub(d Count) Count {
	low, borrow := bits.Sub64(c.Low, d.Low, 0)
	high, _ := bits.Sub64(c.High, d.High, borrow)
	return Count{High: high, Low: low}
}

// Up is a count times two to a power, modulo 2^128; 0, of a power below 0 or from 128 on.
func (c Count) Up(n int) Count {
	if n < 0 || n >= 128 {
		return Count{}
	}
	if n >= 64 {
		return Count{High: c.Low << (n - 64)}
	}
	return Count{High: c.High<<n | c.Low>>(64-n), Low: c.Low << n}
}

// Pow is two to a power; 0, of one below 0 or from 128 on.
func Pow(n int) Count { return Of(1).Up(n) }

// Compare compares two counts.
func (c Count) Compare(d Count) int {
	if c.High != d.High {
		return cmp.Compare(c.High, d.High)
	}
	return cmp.Compare(c.Low, d.Low)
}

// Zero says whether a count is 0.
func (c Count) Zero() bool { return c == Count{} }

// Print is a count in digits.
func (c Count) Print() string {
	var text [size]byte
	at := size
	for at == size || !c.Zero() {
		rest, digit := c.split()
		at--
		text[at] = byte('0' + digit)
		c = rest
	}
	return string(text[at:])
}

// split is a count without its last digit, and that digit.
func (c Count) split() (Count, uint64) {
	low, digit := bits.Div64(c.High%10, c.Low, 10)
	return Count{High: c.High / 10, Low: low}, digit
}

// Parse is the count of digits, without noughts ahead.
func Parse(s string) (Count, api.Errno) {
	if s == "" {
		return Count{}, api.ErrForm
	}
	c := Count{}
	for i, r := range s {
		// Behind the first digit a count is 0 only if that was a nought.
		if r < '0' || r > '9' || i > 0 && c.Zero() {
			return Count{}, api.ErrForm
		}
		next, fits := c.with(uint64(r - '0'))
		if !fits {
			return Count{}, api.ErrRange
		}
		c = next
	}
	return c, api.OK
}

// with is a count with one more digit behind its others; false: it would be above the greatest.
func (c Count) with(digit uint64) (Count, bool) {
	rest, last := greatest().split()
	if c.Compare(rest) > 0 || c == rest && digit > last {
		return Count{}, false
	}
	return c.Up(3).Add(c.Up(1)).Add(Of(digit)), true
}
