// Package onpaper holds no code of the program: it is what the layers' tests hold them against, prefixes as digits written out as text, straight from the fields of an address, and it calls none of the layers.
package onpaper

import (
	"bytes"
	"cmp"
	"math"
	"strconv"

	"kedge/api"
)

// Width is how many digits an address has.
func Width(v6 bool) int {
	if v6 {
		return 128
	}
	return 32
}

// line is a line of all 128 places of an address, those that a short one does not have among them, each with its digit.
func line(a api.Addr) [128]byte {
	var l [128]byte
	for i := range 64 {
		l[i] = '0' + byte(a.Hi>>(63-i)&1)
		l[64+i] = '0' + byte(a.Lo>>(63-i)&1)
	}
	return l
}

// Digits are a line's digits, as text.
func Digits(a api.Addr) string {
	l := line(a)
	return string(l[:])
}

func kind(v6 bool) string {
	if v6 {
		return "6:"
	}
	return "4:"
}

// Key is the kind and the digits of a prefix that may be: one covers another one, if its Key is the beginning of the other's.
func Key(p api.Prefix) string { return kind(p.A.V6) + Digits(p.A)[:p.N] }

// MayBe is prefix.Sane.
func MayBe(p api.Prefix) bool {
	if p.N < 0 || p.N > Width(p.A.V6) {
		return false
	}
	l := line(p.A)
	return !bytes.Contains(l[p.N:], []byte{'1'})
}

// begins: has an address the kind, and at its beginning the digits, of a prefix that may be?
func begins(p api.Prefix, a api.Addr) bool {
	l, m := line(p.A), line(a)
	return p.A.V6 == a.V6 && bytes.Equal(l[:p.N], m[:p.N])
}

// Covers is prefix.Covers.
func Covers(p, q api.Prefix) bool {
	return p.N <= q.N && MayBe(p) && MayBe(q) && begins(p, q.A)
}

// Contains is prefix.Contains.
func Contains(p api.Prefix, a api.Addr) bool { return MayBe(p) && begins(p, a) }

// Compare is prefix.Compare, of two that may be: the short ones are ahead, then it goes by all digits, then by how many there are.
func Compare(p, q api.Prefix) int {
	if p.A.V6 != q.A.V6 {
		return cmp.Compare(Width(p.A.V6), Width(q.A.V6))
	}
	l, m := line(p.A), line(q.A)
	return cmp.Or(bytes.Compare(l[:], m[:]), cmp.Compare(p.N, q.N))
}

// Laid is wire.Put behind no bytes, digit by digit.
func Laid(p api.Prefix) []byte {
	if !MayBe(p) {
		return nil
	}
	b := []byte{4, byte(p.N)}
	if p.A.V6 {
		b[0] = 6
	}
	for s := Digits(p.A); (len(b)-2)*8 < p.N; {
		x, _ := strconv.ParseUint(s[(len(b)-2)*8:(len(b)-1)*8], 2, 8)
		b = append(b, byte(x))
	}
	return b
}

// Cut is the prefix of the first n digits of these words; n is 0 to the width.
func Cut(hi, lo uint64, n int, v6 bool) api.Prefix {
	p := api.Prefix{A: api.Addr{V6: v6}, N: n}
	for i, d := range Digits(api.Addr{Hi: hi, Lo: lo})[:n] {
		if d == '1' && i < 64 {
			p.A.Hi |= 1 << (63 - i)
		}
		if d == '1' && i >= 64 {
			p.A.Lo |= 1 << (127 - i)
		}
	}
	return p
}

// Wrong are prefixes that may not be: N, digits behind N, digits that a short address does not have.
func Wrong() []api.Prefix {
	short, long := api.Addr{Hi: 0x0A810203 << 32}, api.Addr{Hi: 0x20010DB800000000, Lo: 1, V6: true}
	l := []api.Prefix{
		{A: short, N: 8}, {A: short, N: 31}, {A: short, N: 0},
		{A: long, N: 32}, {A: long, N: 127}, {A: long, N: 0},
		{A: api.Addr{Hi: 0x0A810203<<32 | 1}, N: 32}, {A: api.Addr{Hi: 0x0A810203 << 32, Lo: 1}, N: 32},
		{A: api.Addr{Hi: 1 << 31}, N: 32}, {A: api.Addr{Lo: 1 << 63}, N: 0}, {A: api.Addr{Hi: 1 << 31}, N: 33},
		{A: api.Addr{Hi: 1 << 63}, N: 0},
	}
	for _, n := range []int{math.MinInt, -256, -248, -128, -32, -8, -1, 33, 64, 128, 129, 256, 264, 288, math.MaxInt} {
		l = append(l, api.Prefix{N: n}, api.Prefix{A: short, N: n})
	}
	for _, n := range []int{math.MinInt, -256, -128, -1, 129, 255, 256, 264, 384, math.MaxInt} {
		l = append(l, api.Prefix{A: api.Addr{V6: true}, N: n}, api.Prefix{A: long, N: n})
	}
	return l
}

// Addrs are addresses of both kinds, some of them with digits that a short one does not have.
func Addrs() []api.Addr {
	var l []api.Addr
	for _, hi := range []uint64{0, 1, 1 << 32, 1 << 63, 0x0A010203 << 32, 0x0A01020300000001, 0x0A010204 << 32, 0x0B000000 << 32, 0x20010DB800000000, 0x20010DB880000000, 0x20010DB900000000, math.MaxUint64} {
		for _, lo := range []uint64{0, 1, 0x0001000000000000, math.MaxUint64} {
			l = append(l, api.Addr{Hi: hi, Lo: lo}, api.Addr{Hi: hi, Lo: lo, V6: true})
		}
	}
	return l
}

// Mixer tells numbers that are neither in order nor alike, the same ones in each run.
type Mixer uint64

// Below is one of 0 to n - 1; n is 1 or more.
func (m *Mixer) Below(n int) int {
	*m = *m*6364136223846793005 + 1442695040888963407
	return int(*m >> 33 % Mixer(max(n, 1)))
}
