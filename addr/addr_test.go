package addr

import (
	"bytes"
	"math"
	"slices"
	"testing"

	"kedge/api"
)

const all = math.MaxUint64

// places are numbers of digits within and beyond both kinds of address.
var places = []int{math.MinInt, math.MinInt + 1, -129, -64, -1, 0, 1, 7, 8, 9, 30, 31, 32, 33, 62, 63, 64, 65, 95, 96, 126, 127, 128, 129, 191, 1 << 32, 1<<32 + 1, math.MaxInt - 1, math.MaxInt}

// samples are addresses of both kinds, many of them not Sane.
func samples() []api.Addr {
	words := []uint64{0, 1, 5, 1 << 31, 1<<32 - 1, 1 << 32, 1<<32 + 7, 3 << 32, 1 << 63, 1<<63 | 1, 0xC0A80001 << 32, 0xC0A801FF << 32, 0xFFFFFFFE << 32, 0xFFFFFFFF << 32, 0x20010DB800000000, 0x0123456789ABCDEF, all - 1, all}
	var l []api.Addr
	for _, hi := range words {
		for _, lo := range words {
			l = append(l, api.Addr{Hi: hi, Lo: lo}, api.Addr{Hi: hi, Lo: lo, V6: true})
		}
	}
	return l
}

// digits are an address's, written down one by one from its fields, without any of the package's calls.
func digits(a api.Addr) []int {
	var l []int
	for i := 63; i >= 0; i-- {
		l = append(l, int(a.Hi>>i&1))
	}
	if !a.V6 {
		return l[:32]
	}
	for i := 63; i >= 0; i-- {
		l = append(l, int(a.Lo>>i&1))
	}
	return l
}

// undigits is the address that has just these digits.
func undigits(l []int) api.Addr {
	a := api.Addr{V6: len(l) == 128}
	for i, v := range l {
		if i < 64 {
			a.Hi |= uint64(v) << (63 - i)
		} else {
			a.Lo |= uint64(v) << (127 - i)
		}
	}
	return a
}

// withTail are digits whose digits from n on are v.
func withTail(l []int, n, v int) []int {
	l = slices.Clone(l)
	for i := range l {
		if i >= n {
			l[i] = v
		}
	}
	return l
}

// P1.1

func TestWidth(t *testing.T) {
	if Width(false) != 32 || Width(true) != 128 {
		t.Error(Width(false), Width(true))
	}
}

func TestSane(t *testing.T) {
	for _, c := range []struct {
		a    api.Addr
		want bool
	}{
		{api.Addr{}, true},
		{api.Addr{Hi: 0xC0A80001 << 32}, true},
		{api.Addr{Hi: 0xFFFFFFFF << 32}, true},
		{api.Addr{Hi: 1 << 32}, true},
		{api.Addr{Hi: 1 << 31}, false},
		{api.Addr{Hi: 1}, false},
		{api.Addr{Lo: 1}, false},
		{api.Addr{Lo: 1 << 63}, false},
		{api.Addr{Hi: all, Lo: all}, false},
		{api.Addr{Hi: 1 << 31, V6: true}, true},
		{api.Addr{Lo: 1, V6: true}, true},
		{api.Addr{Hi: all, Lo: all, V6: true}, true},
	} {
		if Sane(c.a) != c.want {
			t.Error(c.a, !c.want)
		}
	}
	for _, a := range samples() {
		if Sane(a) != (undigits(digits(a)) == a) {
			t.Error(a)
		}
	}
}

// An address that is not Sane is, for every call, the one without the digits that it does not have, and is told as that one.
func TestNotSane(t *testing.T) {
	for _, bad := range samples() {
		if Sane(bad) {
			continue
		}
		good := undigits(digits(bad))
		for _, n := range places {
			if Bit(bad, n) != Bit(good, n) || Mask(bad, n) != Mask(good, n) || Fill(bad, n) != Fill(good, n) {
				t.Error("Bit, Mask, Fill", bad, n)
			}
			for _, v := range []int{0, 1} {
				if x := Set(bad, n, v); x != Set(good, n, v) || !Sane(x) {
					t.Error("Set", bad, n, v, x)
				}
			}
		}
		if Set(bad, 32, 1) != good || Mask(bad, 32) != good || Mask(bad, math.MaxInt) != good || Fill(bad, 99) != good {
			t.Error("told with them", bad)
		}
		if Compare(bad, good) != 0 || Compare(good, bad) != 0 || Common(bad, good) != 32 || Common(good, bad) != 32 {
			t.Error("Compare, Common", bad)
		}
		if !bytes.Equal(Bytes(bad), Bytes(good)) {
			t.Error("Bytes", bad)
		}
		x, ok := Next(bad)
		y, oky := Next(good)
		if x != y || ok != oky || !Sane(x) {
			t.Error("Next", bad, x, ok)
		}
	}
	last := api.Addr{Hi: all, Lo: all}
	if x, ok := Next(last); ok || x != (api.Addr{Hi: 0xFFFFFFFF << 32}) {
		t.Error("Next of the last one", x, ok)
	}
}

// P1.2

func TestBit(t *testing.T) {
	a := api.Addr{Hi: 0xC0A80001 << 32}
	for i, want := range []int{1, 1, 0, 0} {
		if Bit(a, i) != want {
			t.Error(i, Bit(a, i))
		}
	}
	for _, a := range samples() {
		l := digits(a)
		for i := range l {
			if Bit(a, i) != l[i] {
				t.Error(a, i)
			}
		}
		for _, i := range places {
			if (i < 0 || i >= len(l)) && Bit(a, i) != 0 {
				t.Error("a digit that is not there", a, i)
			}
		}
	}
}

func TestSet(t *testing.T) {
	for _, a := range samples() {
		l := digits(a)
		for i := range l {
			for v, want := range map[int]int{0: 0, 1: 1, 2: 0, 3: 1, -1: 1, -2: 0, math.MinInt: 0, math.MaxInt: 1} {
				m := slices.Clone(l)
				m[i] = want
				if x := Set(a, i, v); x != undigits(m) {
					t.Error(a, i, v, x)
				}
			}
		}
		for _, i := range places {
			if i >= 0 && i < len(l) {
				continue
			}
			if x := Set(a, i, 1); x != undigits(l) {
				t.Error("a digit that is not there", a, i, x)
			}
			if x := Set(a, i, 0); x != undigits(l) {
				t.Error("a digit that is not there", a, i, x)
			}
		}
	}
}

func TestMaskAndFill(t *testing.T) {
	a := api.Addr{Hi: 0xC0A801FE << 32}
	if Mask(a, 16) != (api.Addr{Hi: 0xC0A80000 << 32}) || Fill(a, 16) != (api.Addr{Hi: 0xC0A8FFFF << 32}) {
		t.Error(Mask(a, 16), Fill(a, 16))
	}
	for _, a := range samples() {
		l := digits(a)
		for n := range 131 {
			if x := Mask(a, n); x != undigits(withTail(l, n, 0)) {
				t.Error("Mask", a, n, x)
			}
			if x := Fill(a, n); x != undigits(withTail(l, n, 1)) {
				t.Error("Fill", a, n, x)
			}
		}
		for _, n := range places {
			if x := Mask(a, n); x != undigits(withTail(l, n, 0)) {
				t.Error("Mask", a, n, x)
			}
			if x := Fill(a, n); x != undigits(withTail(l, n, 1)) {
				t.Error("Fill", a, n, x)
			}
		}
	}
}

// P1.3

func TestCompareAndCommon(t *testing.T) {
	l := samples()
	for i, a := range l {
		for _, b := range l[i:] {
			c, n := 0, 0
			if a.V6 != b.V6 {
				c = 1
				if b.V6 {
					c = -1
				}
			} else {
				x, y := digits(a), digits(b)
				c = slices.Compare(x, y)
				for n < len(x) && x[n] == y[n] {
					n++
				}
			}
			if Compare(a, b) != c || Compare(b, a) != -c {
				t.Error("Compare", a, b, Compare(a, b), Compare(b, a))
			}
			if Common(a, b) != n || Common(b, a) != n {
				t.Error("Common", a, b, Common(a, b), Common(b, a))
			}
		}
	}
}

func TestCommonEndsAtEachDigit(t *testing.T) {
	for _, a := range samples() {
		for i, v := range digits(a) {
			b := Set(a, i, 1-v)
			if Common(a, b) != i || Compare(a, b) != 2*v-1 {
				t.Error(a, i, Common(a, b), Compare(a, b))
			}
		}
	}
}

func TestUnlikeKinds(t *testing.T) {
	short, long := api.Addr{Hi: 0xFFFFFFFF << 32}, api.Addr{V6: true}
	if Compare(short, long) != -1 || Compare(long, short) != 1 {
		t.Error("Compare", Compare(short, long), Compare(long, short))
	}
	if Common(api.Addr{}, long) != 0 || Common(long, api.Addr{}) != 0 {
		t.Error("Common", Common(api.Addr{}, long), Common(long, api.Addr{}))
	}
}

// P1.4

func TestBytes(t *testing.T) {
	for _, c := range []struct {
		a    api.Addr
		want []byte
	}{
		{api.Addr{}, make([]byte, 4)},
		{api.Addr{V6: true}, make([]byte, 16)},
		{api.Addr{Hi: 0xC0A80001 << 32}, []byte{192, 168, 0, 1}},
		{api.Addr{Hi: 0xC0A80001<<32 | 9, Lo: 7}, []byte{192, 168, 0, 1}},
		{api.Addr{Hi: 0x0102030405060708, Lo: 0x090A0B0C0D0E0F10, V6: true}, []byte{1, 2, 3, 4, 5, 6, 7, 8, 9, 10, 11, 12, 13, 14, 15, 16}},
		{api.Addr{Hi: all, Lo: all, V6: true}, bytes.Repeat([]byte{255}, 16)},
	} {
		if b := Bytes(c.a); !bytes.Equal(b, c.want) {
			t.Error(c.a, b)
		}
	}
}

func TestFrom(t *testing.T) {
	for _, c := range []struct {
		b    []byte
		want api.Addr
	}{
		{[]byte{0, 0, 0, 0}, api.Addr{}},
		{[]byte{10, 1, 2, 255}, api.Addr{Hi: 0x0A0102FF << 32}},
		{make([]byte, 16), api.Addr{V6: true}},
		{[]byte{1, 2, 3, 4, 5, 6, 7, 8, 9, 10, 11, 12, 13, 14, 15, 16}, api.Addr{Hi: 0x0102030405060708, Lo: 0x090A0B0C0D0E0F10, V6: true}},
	} {
		was := bytes.Clone(c.b)
		if a, e := From(c.b); a != c.want || e != api.OK {
			t.Error(c.b, a, e)
		}
		if !bytes.Equal(was, c.b) {
			t.Error("changed", was, c.b)
		}
	}
}

func TestFromOtherLengths(t *testing.T) {
	if a, e := From(nil); a != (api.Addr{}) || e != api.ErrArg {
		t.Error("nil", a, e)
	}
	for n := range 300 {
		if n == 4 || n == 16 {
			continue
		}
		if a, e := From(bytes.Repeat([]byte{255}, n)); a != (api.Addr{}) || e != api.ErrArg {
			t.Error(n, a, e)
		}
	}
}

func TestNext(t *testing.T) {
	for _, c := range []struct {
		a, want api.Addr
		ok      bool
	}{
		{api.Addr{}, api.Addr{Hi: 1 << 32}, true},
		{api.Addr{Hi: 0x0A0000FF << 32}, api.Addr{Hi: 0x0A000100 << 32}, true},
		{api.Addr{Hi: 0x7FFFFFFF << 32}, api.Addr{Hi: 1 << 63}, true},
		{api.Addr{Hi: 0xFFFFFFFE << 32}, api.Addr{Hi: 0xFFFFFFFF << 32}, true},
		{api.Addr{Hi: 0xFFFFFFFF << 32}, api.Addr{Hi: 0xFFFFFFFF << 32}, false},
		{api.Addr{V6: true}, api.Addr{Lo: 1, V6: true}, true},
		{api.Addr{Lo: all, V6: true}, api.Addr{Hi: 1, V6: true}, true},
		{api.Addr{Hi: all, V6: true}, api.Addr{Hi: all, Lo: 1, V6: true}, true},
		{api.Addr{Hi: all - 1, Lo: all, V6: true}, api.Addr{Hi: all, V6: true}, true},
		{api.Addr{Hi: all, Lo: all - 1, V6: true}, api.Addr{Hi: all, Lo: all, V6: true}, true},
		{api.Addr{Hi: all, Lo: all, V6: true}, api.Addr{Hi: all, Lo: all, V6: true}, false},
	} {
		if x, ok := Next(c.a); x != c.want || ok != c.ok {
			t.Error(c.a, x, ok)
		}
	}
}

// Between an address and the next one, the last 0 becomes 1 and the digits behind it 0.
func TestNextByDigits(t *testing.T) {
	for _, a := range samples() {
		l := digits(a)
		i := len(l) - 1
		for i >= 0 && l[i] == 1 {
			i--
		}
		want := undigits(l)
		if i >= 0 {
			l[i] = 1
			want = undigits(withTail(l, i+1, 0))
		}
		if x, ok := Next(a); x != want || ok != (i >= 0) {
			t.Error(a, x, ok)
		}
	}
}

// P1.5

func TestBytesAreReadAsTheyWereTold(t *testing.T) {
	for _, a := range samples() {
		x, e := From(Bytes(a))
		if x != undigits(digits(a)) || e != api.OK {
			t.Error(a, x, e)
		}
	}
	for seed := range 256 {
		for _, n := range []int{4, 16} {
			b := make([]byte, n)
			for i := range b {
				b[i] = byte(seed*(i+3) + i*i)
			}
			if a, e := From(b); e != api.OK || !Sane(a) || a.V6 != (n == 16) || !bytes.Equal(Bytes(a), b) {
				t.Error(b, a, e)
			}
		}
	}
}

func TestDigitsThatAreSetAreTold(t *testing.T) {
	for _, a := range samples() {
		l := digits(a)
		for i := range l {
			for v := range 2 {
				b := Set(a, i, v)
				if Bit(b, i) != v || b.V6 != a.V6 || Set(b, i, l[i]) != undigits(l) {
					t.Error(a, i, v, b)
				}
			}
		}
	}
}

// Two answers share no memory.
func TestBytesAreNew(t *testing.T) {
	a := api.Addr{Hi: 0xC0A80001 << 32}
	first := Bytes(a)
	first[0] = 0
	if Bytes(a)[0] != 192 {
		t.Error("shared")
	}
}
