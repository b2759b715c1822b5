// Package hdr is layer 2: see shared/doc/02-hdr.md.
package hdr

import (
	"cmp"
	"math"
	"strconv"
	"strings"

	"crossbuck/api"
)

// The first bits of a header's fields.
const (
	Dst   = 0
	Src   = 32
	Proto = 64
	SPort = 72
	DPort = 88
)

// words are all bits of a header, as two numbers: those of both addresses, and those from Proto on.
type words [2]uint64

// pack lays a header's fields beside each other, as its bits are numbered.
func pack(h api.Header) words {
	return words{
		uint64(h.Dst)<<(Proto-Src) | uint64(h.Src),
		uint64(h.Proto)<<(api.Vars-SPort) | uint64(h.SPort)<<(api.Vars-DPort) | uint64(h.DPort),
	}
}

// unpack is the header whose bits these are.
func unpack(w words) api.Header {
	return api.Header{
		Dst:   uint32(w[0] >> (Proto - Src)),
		Src:   uint32(w[0]),
		Proto: uint8(w[1] >> (api.Vars - SPort)),
		SPort: uint16(w[1] >> (api.Vars - DPort)),
		DPort: uint16(w[1]),
	}
}

// mask are the words in which one bit alone is set; none, where there is no such bit.
func mask(i int) words {
	switch {
	case i < 0 || i >= api.Vars:
		return words{}
	case i < Proto:
		return words{1 << (Proto - 1 - i), 0}
	}
	return words{0, 1 << (api.Vars - 1 - i)}
}

// Bit says whether a bit of a header is set: field by field, the highest first.
func Bit(h api.Header, i int) bool {
	w, m := pack(h), mask(i)
	return w[0]&m[0] != 0 || w[1]&m[1] != 0
}

// With is a header with a bit set, or not.
func With(h api.Header, i int, on bool) api.Header {
	w := pack(h)
	for k, m := range mask(i) {
		w[k] &^= m
		if on {
			w[k] |= m
		}
	}
	return unpack(w)
}

// Compare compares two headers, field by field.
func Compare(a, b api.Header) int {
	v, w := pack(a), pack(b)
	if v[0] != w[0] {
		return cmp.Compare(v[0], w[0])
	}
	return cmp.Compare(v[1], w[1])
}

// Addr is an address as four numbers with dots between.
func Addr(a uint32) string {
	return strings.Join([]string{part(a, 24), part(a, 16), part(a, 8), part(a, 0)}, ".")
}

// part are eight bits of an address in digits, those above the lowest ones.
func part(a uint32, low int) string { return strconv.Itoa(int(a >> low & math.MaxUint8)) }

// Number is the number of a word of digits, without noughts ahead, up to a greatest one.
func Number(s string, most int) (int, api.Errno) {
	if s == "" {
		return 0, api.ErrForm
	}
	n := 0
	for i, r := range s {
		// Behind the first digit a number is 0 only if that was a nought.
		if r < '0' || r > '9' || i > 0 && n == 0 {
			return 0, api.ErrForm
		}
		digit := int(r - '0')
		// Held against what is left below the greatest, as ten times n could be beyond the ends of an int.
		if digit > most || n > (most-digit)/10 {
			return 0, api.ErrRange
		}
		n = n*10 + digit
	}
	return n, api.OK
}

// ParseAddr is the address of a text.
func ParseAddr(s string) (uint32, api.Errno) {
	parts := split(s, ".", 4)
	if len(parts) != 4 {
		return 0, api.ErrForm
	}
	a := uint32(0)
	for _, p := range parts {
		n, e := Number(p, math.MaxUint8)
		if e != api.OK {
			return 0, e
		}
		a = a<<8 | uint32(n)
	}
	return a, api.OK
}

// split are a text's parts; where there are more than so many, just one more, for a long text may have any number of them.
func split(s, between string, most int) []string { return strings.SplitN(s, between, most+1) }

// Print is a header as a line: its fields, with blanks between.
func Print(h api.Header) string {
	fields := []string{
		Addr(h.Dst),
		Addr(h.Src),
		strconv.Itoa(int(h.Proto)),
		strconv.Itoa(int(h.SPort)),
		strconv.Itoa(int(h.DPort)),
	}
	return strings.Join(fields, " ")
}

// Parse is the header of a line.
func Parse(s string) (api.Header, api.Errno) {
	parts := split(s, " ", 5)
	if len(parts) != 5 {
		return api.Header{}, api.ErrForm
	}
	dst, e := ParseAddr(parts[0])
	if e != api.OK {
		return api.Header{}, e
	}
	src, e := ParseAddr(parts[1])
	if e != api.OK {
		return api.Header{}, e
	}
	n, e := numbers(parts[2:])
	if e != api.OK {
		return api.Header{}, e
	}
	return api.Header{Dst: dst, Src: src, Proto: uint8(n[0]), SPort: uint16(n[1]), DPort: uint16(n[2])}, api.OK
}

// numbers are a header's protocol and ports, of three words.
func numbers(l []string) ([3]int, api.Errno) {
	most := [3]int{math.MaxUint8, math.MaxUint16, math.MaxUint16}
	var out [3]int
	for i, m := range most {
		n, e := Number(l[i], m)
		if e != api.OK {
			return [3]int{}, e
		}
		out[i] = n
	}
	return out, api.OK
}
