// Package addr is layer 1, addresses, as digits of two: see shared/doc/01-addr.md.
package addr

import (
	"cmp"
	"math/bits"

	"kedge/api"
)

const (
	byteBits         = 8
	wordBits         = 64
	ones      uint64 = 1<<wordBits - 1
	shortLast uint64 = 1 << (wordBits - api.Bits4) // where the last digit of a short address stands in its first word
)

// words are an address's digits, the first ones first, so that a digit's word and its place in it follow from its number.
type words [2]uint64

// split is an address's words; digits that a short address does not have are taken for 0.
func split(a api.Addr) words {
	if a.V6 {
		return words{a.Hi, a.Lo}
	}
	return words{a.Hi &^ (shortLast - 1), 0}
}

// whole is the address of words: it is split anew, so that it is Sane whatever they are.
func whole(w words, v6 bool) api.Addr {
	w = split(api.Addr{Hi: w[0], Lo: w[1], V6: v6})
	return api.Addr{Hi: w[0], Lo: w[1], V6: v6}
}

// there: is there such a digit?
func there(a api.Addr, i int) bool { return i >= 0 && i < Width(a.V6) }

// place is how many digits of its word stand behind a digit.
func place(i int) int { return wordBits - 1 - i%wordBits }

// tail is the k-th word of an address whose digits from n on, and no others, are 1.
func tail(n, k int) uint64 {
	return ones >> min(max(n-k*wordBits, 0), wordBits)
}

// within is n, brought to 0 to the width.
func within(a api.Addr, n int) int { return min(max(n, 0), Width(a.V6)) }

// Width is how many digits there are.
func Width(v6 bool) int {
	if v6 {
		return api.Bits6
	}
	return api.Bits4
}

// Sane: may an address be?
func Sane(a api.Addr) bool { return split(a) == words{a.Hi, a.Lo} }

// Bit is a digit.
func Bit(a api.Addr, i int) int {
	if !there(a, i) {
		return 0
	}
	w := split(a)
	return int(w[i/wordBits] >> place(i) & 1)
}

// Set is an address with another digit.
func Set(a api.Addr, i, v int) api.Addr {
	w := split(a)
	if there(a, i) {
		at := uint64(1) << place(i)
		w[i/wordBits] &^= at
		if v&1 == 1 {
			w[i/wordBits] |= at
		}
	}
	return whole(w, a.V6)
}

// Mask is an address without its last digits.
func Mask(a api.Addr, n int) api.Addr {
	n = within(a, n)
	w := split(a)
	for k := range w {
		w[k] &^= tail(n, k)
	}
	return whole(w, a.V6)
}

// Fill is an address whose last digits are 1.
func Fill(a api.Addr, n int) api.Addr {
	n = within(a, n)
	w := split(a)
	for k := range w {
		w[k] |= tail(n, k)
	}
	return whole(w, a.V6)
}

// Compare is which address is ahead.
func Compare(a, b api.Addr) int {
	if a.V6 != b.V6 {
		if b.V6 {
			return -1
		}
		return 1
	}
	v, w := split(a), split(b)
	for k := range v {
		if c := cmp.Compare(v[k], w[k]); c != 0 {
			return c
		}
	}
	return 0
}

// Common is how many first digits are alike.
func Common(a, b api.Addr) int {
	if a.V6 != b.V6 {
		return 0
	}
	v, w := split(a), split(b)
	for k := range v {
		if v[k] != w[k] {
			return k*wordBits + bits.LeadingZeros64(v[k]^w[k])
		}
	}
	return Width(a.V6)
}

// Bytes is an address as bytes.
func Bytes(a api.Addr) []byte {
	w := split(a)
	b := make([]byte, Width(a.V6)/byteBits)
	for i := range b {
		last := i*byteBits + byteBits - 1
		b[i] = byte(w[last/wordBits] >> place(last))
	}
	return b
}

// From is bytes as an address.
func From(b []byte) (api.Addr, api.Errno) {
	v6 := len(b) == api.Bits6/byteBits
	if !v6 && len(b) != api.Bits4/byteBits {
		return api.Addr{}, api.ErrArg
	}
	var w words
	for i, x := range b {
		last := i*byteBits + byteBits - 1
		w[last/wordBits] |= uint64(x) << place(last)
	}
	return whole(w, v6), api.OK
}

// Next is the address that is one more.
func Next(a api.Addr) (api.Addr, bool) {
	w := split(a)
	a = whole(w, a.V6)
	if a == Fill(a, 0) {
		return a, false
	}
	if !a.V6 {
		w[0] += shortLast
		return whole(w, false), true
	}
	w[1]++
	if w[1] == 0 { // the last word wrapped round
		w[0]++
	}
	return whole(w, true), true
}
