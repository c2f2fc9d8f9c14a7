package wire

import (
	"bytes"
	"fmt"
	"math"
	"slices"
	"strconv"
	"strings"
	"testing"

	"kedge/api"
	"kedge/onpaper"
)

// The tests hold the package against bytes written out by hand, and against digits written out as text, straight from the fields of an address.

const all = math.MaxUint64

// laidRoute are the bytes of a route; none of one that may not be.
func laidRoute(r api.Route) []byte {
	b := onpaper.Laid(r.P)
	if b == nil || r.Hop < 0 || r.Hop > 65535 {
		return nil
	}
	return append(b, byte(r.Hop/256), byte(r.Hop%256))
}

// read is what the chapter says of Get, in its order.
func read(b []byte) (api.Prefix, int, api.Errno) {
	none := api.Prefix{}
	if len(b) < 2 {
		return none, 0, api.ErrShort
	}
	if b[0] != 4 && b[0] != 6 {
		return none, 0, api.ErrForm
	}
	v6, n := b[0] == 6, int(b[1])
	if n > onpaper.Width(v6) {
		return none, 0, api.ErrBadPrefix
	}
	bits := ""
	for _, x := range b[2:min(len(b), 18)] { // no prefix has more of them
		bits += fmt.Sprintf("%08b", x)
	}
	if len(bits) < n {
		return none, 0, api.ErrShort
	}
	size := 2
	for (size-2)*8 < n {
		size++
	}
	if strings.Contains(bits[n:(size-2)*8], "1") {
		return none, 0, api.ErrBadPrefix
	}
	bits = bits[:n] + strings.Repeat("0", 128-n)
	p := api.Prefix{A: api.Addr{V6: v6}, N: n}
	p.A.Hi, _ = strconv.ParseUint(bits[:64], 2, 64)
	p.A.Lo, _ = strconv.ParseUint(bits[64:], 2, 64)
	return p, size, api.OK
}

// readRoute is what the chapter says of GetRoute.
func readRoute(b []byte) (api.Route, int, api.Errno) {
	p, n, e := read(b)
	if e != api.OK {
		return api.Route{}, 0, e
	}
	if len(b) < n+2 {
		return api.Route{}, 0, api.ErrShort
	}
	return api.Route{P: p, Hop: 256*int(b[n]) + int(b[n+1])}, n + 2, api.OK
}

// readAll is what the chapter says of GetAll.
func readAll(b []byte) ([]api.Route, api.Errno) {
	var l []api.Route
	for len(b) > 0 {
		r, n, e := readRoute(b)
		if e != api.OK {
			return nil, e
		}
		l, b = append(l, r), b[n:]
	}
	return l, api.OK
}

// mixed are words whose digits are neither all alike nor the same in two bytes.
const mixedHi, mixedLo uint64 = 0xC1A3957B0D2F4E68, 0x9D5B7F31E2C48A61

// saneSamples are prefixes of both kinds and of every length.
func saneSamples() []api.Prefix {
	var l []api.Prefix
	for _, v6 := range []bool{false, true} {
		for n := 0; n <= onpaper.Width(v6); n++ {
			l = append(l, onpaper.Cut(mixedHi, mixedLo, n, v6), onpaper.Cut(all, all, n, v6), onpaper.Cut(0, 0, n, v6))
		}
	}
	return l
}

var goodHops = []int{0, 1, 2, 255, 256, 257, 258, 513, 32767, 32768, 65280, 65534, 65535}

var badHops = []int{math.MinInt, -65536, -65535, -256, -1, 65536, 65537, 1 << 17, 1<<32 + 1, math.MaxInt}

// heads are lists that bytes are laid behind; some have room behind their end.
func heads() [][]byte {
	return [][]byte{nil, {}, {9}, {4, 8, 10}, {6, 0, 1}, make([]byte, 0, 64), make([]byte, 5, 64), bytes.Repeat([]byte{7}, 300)}
}

// behinds are what may stand behind.
var behinds = [][]byte{nil, {0}, {255}, {0, 0}, {4, 0, 0, 1}, {6, 200, 1}, {7, 7, 7, 7, 7, 7, 7, 7, 7, 7, 7, 7, 7, 7, 7, 7, 7, 7, 7, 7}}

func wantPrefix(t *testing.T, b []byte, want api.Prefix, n int, e api.Errno) {
	t.Helper()
	if p, m, f := Get(b); p != want || m != n || f != e {
		t.Errorf("Get(%v) = %v, %d, %d, not %v, %d, %d", b, p, m, f, want, n, e)
	}
}

func wantRoute(t *testing.T, b []byte, want api.Route, n int, e api.Errno) {
	t.Helper()
	if r, m, f := GetRoute(b); r != want || m != n || f != e {
		t.Errorf("GetRoute(%v) = %v, %d, %d, not %v, %d, %d", b, r, m, f, want, n, e)
	}
}

func wantAll(t *testing.T, b []byte, want []api.Route, e api.Errno) {
	t.Helper()
	if l, f := GetAll(b); !slices.Equal(l, want) || f != e {
		t.Errorf("GetAll(%v) = %v, %d, not %v, %d", b, l, f, want, e)
	}
}

// wantError: that error, and nothing beside it, of a prefix, of a route and of routes.
func wantError(t *testing.T, b []byte, e api.Errno) {
	t.Helper()
	wantPrefix(t, b, api.Prefix{}, 0, e)
	wantRoute(t, b, api.Route{}, 0, e)
	if len(b) > 0 {
		wantAll(t, b, nil, e)
	}
}

// P4.1

func TestPut(t *testing.T) {
	for _, c := range []struct {
		p    api.Prefix
		want []byte
	}{
		{onpaper.Cut(0x0A<<56, 0, 8, false), []byte{4, 8, 10}},
		{onpaper.Cut(0x0A810203<<32, 0, 0, false), []byte{4, 0}},
		{onpaper.Cut(0x0A810203<<32, 0, 1, false), []byte{4, 1, 0}},
		{onpaper.Cut(0xFA810203<<32, 0, 7, false), []byte{4, 7, 0xFA}},
		{onpaper.Cut(0x0A810203<<32, 0, 9, false), []byte{4, 9, 10, 128}},
		{onpaper.Cut(0x0A810203<<32, 0, 16, false), []byte{4, 16, 10, 129}},
		{onpaper.Cut(0x0A810203<<32, 0, 17, false), []byte{4, 17, 10, 129, 0}},
		{onpaper.Cut(0x0A810203<<32, 0, 31, false), []byte{4, 31, 10, 129, 2, 2}},
		{onpaper.Cut(0x0A810203<<32, 0, 32, false), []byte{4, 32, 10, 129, 2, 3}},
		{api.Prefix{}, []byte{4, 0}},
		{api.Prefix{A: api.Addr{V6: true}}, []byte{6, 0}},
		{api.Prefix{N: 32}, []byte{4, 32, 0, 0, 0, 0}},
		{onpaper.Cut(0x20010DB8<<32, 0, 29, true), []byte{6, 29, 0x20, 1, 0x0D, 0xB8}},
		{onpaper.Cut(0x20010DB8<<32, 0, 32, true), []byte{6, 32, 0x20, 1, 0x0D, 0xB8}},
		{onpaper.Cut(0x0102030405060708, 0x090A0B0C0D0E0F10, 64, true), []byte{6, 64, 1, 2, 3, 4, 5, 6, 7, 8}},
		{onpaper.Cut(0x0102030405060708, 0xF90A0B0C0D0E0F10, 65, true), []byte{6, 65, 1, 2, 3, 4, 5, 6, 7, 8, 128}},
		{onpaper.Cut(0x0102030405060708, 0x090A0B0C0D0E0F11, 128, true), []byte{6, 128, 1, 2, 3, 4, 5, 6, 7, 8, 9, 10, 11, 12, 13, 14, 15, 17}},
		{onpaper.Cut(0x0102030405060708, 0x090A0B0C0D0E0F11, 127, true), []byte{6, 127, 1, 2, 3, 4, 5, 6, 7, 8, 9, 10, 11, 12, 13, 14, 15, 16}},
	} {
		if got := Put(nil, c.p); !bytes.Equal(got, c.want) {
			t.Errorf("Put(nil, %v) = %v, not %v", c.p, got, c.want)
		}
	}
}

func TestPutBehindBytes(t *testing.T) {
	for _, b := range heads() {
		for _, p := range append(saneSamples(), onpaper.Wrong()...) {
			want := append(slices.Clone(b), onpaper.Laid(p)...)
			if got := Put(b, p); !bytes.Equal(got, want) {
				t.Fatalf("Put(%v, %v) = %v, not %v", b, p, got, want)
			}
		}
	}
}

func TestPutOfWhatMayNotBe(t *testing.T) {
	for _, p := range onpaper.Wrong() {
		if got := Put(nil, p); len(got) != 0 {
			t.Errorf("Put(nil, %v) = %v", p, got)
		}
		if got := Put([]byte{1, 2, 3}, p); !bytes.Equal(got, []byte{1, 2, 3}) {
			t.Errorf("Put({1, 2, 3}, %v) = %v", p, got)
		}
	}
}

func TestGet(t *testing.T) {
	wantPrefix(t, []byte{4, 8, 10}, onpaper.Cut(0x0A<<56, 0, 8, false), 3, api.OK)
	wantPrefix(t, []byte{4, 0}, api.Prefix{}, 2, api.OK)
	wantPrefix(t, []byte{6, 0}, api.Prefix{A: api.Addr{V6: true}}, 2, api.OK)
	wantPrefix(t, []byte{4, 9, 10, 128}, api.Prefix{A: api.Addr{Hi: 0x0A80 << 48}, N: 9}, 4, api.OK)
	wantPrefix(t, []byte{4, 32, 10, 129, 2, 3}, api.Prefix{A: api.Addr{Hi: 0x0A810203 << 32}, N: 32}, 6, api.OK)
	wantPrefix(t, []byte{6, 29, 0x20, 1, 0x0D, 0xB8}, api.Prefix{A: api.Addr{Hi: 0x20010DB8 << 32, V6: true}, N: 29}, 6, api.OK)
	wantPrefix(t, []byte{6, 33, 0x20, 1, 0x0D, 0xB8, 128}, api.Prefix{A: api.Addr{Hi: 0x20010DB880 << 24, V6: true}, N: 33}, 7, api.OK)
	wantPrefix(t, []byte{6, 128, 1, 2, 3, 4, 5, 6, 7, 8, 9, 10, 11, 12, 13, 14, 15, 17}, api.Prefix{A: api.Addr{Hi: 0x0102030405060708, Lo: 0x090A0B0C0D0E0F11, V6: true}, N: 128}, 18, api.OK)
}

func TestGetWithBytesBehind(t *testing.T) {
	wantPrefix(t, []byte{4, 9, 10, 128, 255}, api.Prefix{A: api.Addr{Hi: 0x0A80 << 48}, N: 9}, 4, api.OK)
	wantPrefix(t, []byte{4, 8, 10, 255, 255}, api.Prefix{A: api.Addr{Hi: 0x0A << 56}, N: 8}, 3, api.OK)
	wantPrefix(t, []byte{4, 0, 255, 255}, api.Prefix{}, 2, api.OK)
	wantPrefix(t, []byte{6, 0, 255}, api.Prefix{A: api.Addr{V6: true}}, 2, api.OK)
	wantPrefix(t, []byte{4, 32, 1, 2, 3, 4, 5}, api.Prefix{A: api.Addr{Hi: 0x01020304 << 32}, N: 32}, 6, api.OK)
}

func TestFewerThanTwoBytes(t *testing.T) {
	wantError(t, nil, api.ErrShort)
	wantError(t, []byte{}, api.ErrShort)
	for x := range 256 {
		wantError(t, []byte{byte(x)}, api.ErrShort) // also of a first byte that may not be
	}
}

func TestFirstByte(t *testing.T) {
	for x := range 256 {
		if x == 4 || x == 6 {
			continue
		}
		for n := range 256 { // also of an N that may not be
			wantError(t, []byte{byte(x), byte(n)}, api.ErrForm)
			wantError(t, append([]byte{byte(x), byte(n)}, make([]byte, 32)...), api.ErrForm)
		}
	}
}

func TestLengthAboveWidth(t *testing.T) {
	for _, c := range []struct {
		kind byte
		most int
	}{{4, 32}, {6, 128}} {
		for n := c.most + 1; n <= 255; n++ {
			for behind := range 36 { // bytes are missing, or there are enough of them
				wantError(t, append([]byte{c.kind, byte(n)}, make([]byte, behind)...), api.ErrBadPrefix)
			}
			wantError(t, append([]byte{c.kind, byte(n)}, bytes.Repeat([]byte{255}, 40)...), api.ErrBadPrefix)
		}
	}
}

func TestBytesMissing(t *testing.T) {
	for _, p := range saneSamples() {
		b := onpaper.Laid(p)
		for n := range b {
			wantError(t, b[:n], api.ErrShort)
		}
	}
	// Also where digits behind would not be 0, if all bytes were there.
	wantError(t, []byte{4, 1}, api.ErrShort)
	wantError(t, []byte{4, 17, 255, 255}, api.ErrShort)
	wantError(t, []byte{4, 32, 255, 255, 255}, api.ErrShort)
	wantError(t, append([]byte{6, 121}, bytes.Repeat([]byte{255}, 15)...), api.ErrShort)
}

func TestDigitsBehind(t *testing.T) {
	wantError(t, []byte{4, 9, 10, 64}, api.ErrBadPrefix)
	wantError(t, []byte{4, 9, 10, 129, 0, 0, 0}, api.ErrBadPrefix)
	wantError(t, []byte{6, 1, 1}, api.ErrBadPrefix)
	for _, v6 := range []bool{false, true} {
		for n := 0; n <= onpaper.Width(v6); n++ {
			b := onpaper.Laid(onpaper.Cut(mixedHi, mixedLo, n, v6))
			for place := n; place < (len(b)-2)*8; place++ {
				wrong := slices.Clone(b)
				wrong[2+place/8] |= 128 >> (place % 8)
				wantError(t, wrong, api.ErrBadPrefix)
				wantError(t, append(wrong, 0, 1, 0, 0), api.ErrBadPrefix)
			}
		}
	}
}

func TestGetAgainstReading(t *testing.T) {
	for _, kind := range []byte{0, 3, 4, 5, 6, 7, 64, 96, 255} {
		for n := range 256 {
			for size := range 20 {
				for _, fill := range []byte{0, 1, 0x80, 0xA8, 255} {
					b := append([]byte{kind, byte(n)}, bytes.Repeat([]byte{fill}, size)...)
					p, m, e := read(b)
					wantPrefix(t, b, p, m, e)
				}
			}
		}
	}
}

// P4.2

func TestGood(t *testing.T) {
	for _, p := range saneSamples() {
		for _, hop := range goodHops {
			if r := (api.Route{P: p, Hop: hop}); !Good(r) {
				t.Errorf("%v is not Good", r)
			}
		}
		for _, hop := range badHops {
			if r := (api.Route{P: p, Hop: hop}); Good(r) {
				t.Errorf("%v is Good", r)
			}
		}
	}
	for _, p := range onpaper.Wrong() {
		for _, hop := range append(goodHops, badHops...) {
			if r := (api.Route{P: p, Hop: hop}); Good(r) {
				t.Errorf("%v is Good", r)
			}
		}
	}
}

func TestPutRoute(t *testing.T) {
	p := onpaper.Cut(0x0A810000<<32, 0, 16, false)
	for _, c := range []struct {
		r    api.Route
		want []byte
	}{
		{api.Route{}, []byte{4, 0, 0, 0}},
		{api.Route{P: p}, []byte{4, 16, 10, 129, 0, 0}},
		{api.Route{P: p, Hop: 1}, []byte{4, 16, 10, 129, 0, 1}},
		{api.Route{P: p, Hop: 255}, []byte{4, 16, 10, 129, 0, 255}},
		{api.Route{P: p, Hop: 256}, []byte{4, 16, 10, 129, 1, 0}},
		{api.Route{P: p, Hop: 258}, []byte{4, 16, 10, 129, 1, 2}},
		{api.Route{P: p, Hop: 65535}, []byte{4, 16, 10, 129, 255, 255}},
		{api.Route{P: onpaper.Cut(0x20010DB8<<32, 0, 29, true), Hop: 0x1234}, []byte{6, 29, 0x20, 1, 0x0D, 0xB8, 0x12, 0x34}},
		{api.Route{P: p, Hop: 65536}, nil},
		{api.Route{P: p, Hop: -1}, nil},
		{api.Route{P: api.Prefix{A: p.A, N: 15}, Hop: 1}, nil},
	} {
		for _, b := range heads() {
			want := append(slices.Clone(b), c.want...)
			if got := PutRoute(b, c.r); !bytes.Equal(got, want) {
				t.Errorf("PutRoute(%v, %v) = %v, not %v", b, c.r, got, want)
			}
		}
	}
}

func TestPutRouteOfWhatIsNotGood(t *testing.T) {
	for _, b := range heads() {
		for _, p := range onpaper.Wrong() {
			for _, hop := range append(goodHops, badHops...) {
				if got := PutRoute(b, api.Route{P: p, Hop: hop}); !bytes.Equal(got, b) {
					t.Fatalf("PutRoute(%v, %v, %d) = %v", b, p, hop, got)
				}
			}
		}
		for _, p := range saneSamples() {
			for _, hop := range badHops {
				if got := PutRoute(b, api.Route{P: p, Hop: hop}); !bytes.Equal(got, b) {
					t.Fatalf("PutRoute(%v, %v, %d) = %v", b, p, hop, got)
				}
			}
		}
	}
}

func TestGetRoute(t *testing.T) {
	p := onpaper.Cut(0x0A810000<<32, 0, 16, false)
	wantRoute(t, []byte{4, 16, 10, 129, 1, 2}, api.Route{P: p, Hop: 258}, 6, api.OK)
	wantRoute(t, []byte{4, 16, 10, 129, 0, 0}, api.Route{P: p}, 6, api.OK)
	wantRoute(t, []byte{4, 16, 10, 129, 255, 255, 7}, api.Route{P: p, Hop: 65535}, 6, api.OK)
	wantRoute(t, []byte{4, 0, 0, 0}, api.Route{}, 4, api.OK)
	wantRoute(t, []byte{6, 0, 128, 0, 9, 9}, api.Route{P: api.Prefix{A: api.Addr{V6: true}}, Hop: 32768}, 4, api.OK)
	wantRoute(t, []byte{6, 29, 0x20, 1, 0x0D, 0xB8, 0x12, 0x34}, api.Route{P: onpaper.Cut(0x20010DB8<<32, 0, 29, true), Hop: 0x1234}, 8, api.OK)
}

func TestHopMissing(t *testing.T) {
	for _, p := range saneSamples() {
		b := onpaper.Laid(p)
		wantRoute(t, b, api.Route{}, 0, api.ErrShort)
		wantRoute(t, append(slices.Clone(b), 255), api.Route{}, 0, api.ErrShort)
		wantRoute(t, append(slices.Clone(b), 255, 254), api.Route{P: p, Hop: 65534}, len(b)+2, api.OK)
	}
	// What is wrong with the prefix is told ahead of that.
	wantRoute(t, []byte{5, 0}, api.Route{}, 0, api.ErrForm)
	wantRoute(t, []byte{4, 33}, api.Route{}, 0, api.ErrBadPrefix)
	wantRoute(t, []byte{4, 9, 10, 64}, api.Route{}, 0, api.ErrBadPrefix)
	wantRoute(t, []byte{4, 9, 10, 64, 1}, api.Route{}, 0, api.ErrBadPrefix)
}

func TestEachHop(t *testing.T) {
	for hop := range 65536 {
		b := []byte{6, 8, 0xFD, byte(hop / 256), byte(hop % 256)}
		r := api.Route{P: onpaper.Cut(0xFD<<56, 0, 8, true), Hop: hop}
		if got := PutRoute(nil, r); !bytes.Equal(got, b) {
			t.Fatalf("PutRoute(nil, %v) = %v, not %v", r, got, b)
		}
		wantRoute(t, b, r, 5, api.OK)
	}
}

func TestGetRouteAgainstReading(t *testing.T) {
	for _, kind := range []byte{4, 5, 6} {
		for n := range 256 {
			for size := range 21 {
				for _, fill := range []byte{0, 1, 0x80, 0xFE, 255} {
					b := append([]byte{kind, byte(n)}, bytes.Repeat([]byte{fill}, size)...)
					r, m, e := readRoute(b)
					wantRoute(t, b, r, m, e)
				}
			}
		}
	}
}

// P4.3

func goodRoutes() []api.Route {
	var l []api.Route
	for i, p := range saneSamples() {
		l = append(l, api.Route{P: p, Hop: goodHops[i%len(goodHops)]})
	}
	return l
}

func TestPutAll(t *testing.T) {
	if got := PutAll(nil); len(got) != 0 {
		t.Errorf("PutAll(nil) = %v", got)
	}
	if got := PutAll([]api.Route{}); len(got) != 0 {
		t.Errorf("PutAll of none = %v", got)
	}
	l := []api.Route{{Hop: 1}, {P: api.Prefix{A: api.Addr{V6: true}}, Hop: 65535}, {P: onpaper.Cut(0x0A<<56, 0, 8, false), Hop: 2}, {Hop: 1}}
	want := []byte{4, 0, 0, 1, 6, 0, 255, 255, 4, 8, 10, 0, 2, 4, 0, 0, 1}
	if got := PutAll(l); !bytes.Equal(got, want) {
		t.Errorf("PutAll(%v) = %v, not %v", l, got, want)
	}
}

func TestPutAllLeavesOutWhatIsNotGood(t *testing.T) {
	ten := onpaper.Cut(0x0A<<56, 0, 8, false)
	l := []api.Route{{Hop: -1}, {P: ten, Hop: 3}, {P: api.Prefix{N: 33}, Hop: 3}, {P: ten, Hop: 65536}, {P: ten, Hop: 4}, {P: api.Prefix{A: ten.A, N: 4}}}
	if got, want := PutAll(l), []byte{4, 8, 10, 0, 3, 4, 8, 10, 0, 4}; !bytes.Equal(got, want) {
		t.Errorf("PutAll(%v) = %v, not %v", l, got, want)
	}
	if got := PutAll([]api.Route{{Hop: -1}, {Hop: 65536}, {P: api.Prefix{N: -1}}}); len(got) != 0 {
		t.Errorf("PutAll of none that is Good = %v", got)
	}
	var mixed []api.Route
	var want []byte
	for i, p := range append(saneSamples(), onpaper.Wrong()...) {
		for _, hop := range []int{goodHops[i%len(goodHops)], badHops[i%len(badHops)]} {
			mixed = append(mixed, api.Route{P: p, Hop: hop})
			want = append(want, laidRoute(api.Route{P: p, Hop: hop})...)
		}
	}
	if got := PutAll(mixed); !bytes.Equal(got, want) {
		t.Errorf("PutAll of mixed routes = %v, not %v", got, want)
	}
}

func TestGetAll(t *testing.T) {
	wantAll(t, nil, nil, api.OK)
	wantAll(t, []byte{}, nil, api.OK)
	wantAll(t, []byte{4, 0, 0, 1}, []api.Route{{Hop: 1}}, api.OK)
	wantAll(t, []byte{4, 0, 0, 1, 6, 0, 255, 255}, []api.Route{{Hop: 1}, {P: api.Prefix{A: api.Addr{V6: true}}, Hop: 65535}}, api.OK)
	wantAll(t, []byte{4, 8, 10, 0, 2, 4, 8, 10, 0, 2}, []api.Route{{P: onpaper.Cut(0x0A<<56, 0, 8, false), Hop: 2}, {P: onpaper.Cut(0x0A<<56, 0, 8, false), Hop: 2}}, api.OK)
	l := goodRoutes()
	var b []byte
	for _, r := range l {
		b = append(b, laidRoute(r)...)
	}
	wantAll(t, b, l, api.OK)
}

func TestGetAllWithAnError(t *testing.T) {
	ahead := []byte{4, 8, 10, 0, 2, 6, 0, 1, 1}
	for _, c := range []struct {
		last []byte
		e    api.Errno
	}{
		{[]byte{4}, api.ErrShort},
		{[]byte{7}, api.ErrShort},
		{[]byte{7, 0}, api.ErrForm},
		{[]byte{7, 255}, api.ErrForm},
		{[]byte{4, 33}, api.ErrBadPrefix},
		{[]byte{6, 129, 0, 0}, api.ErrBadPrefix},
		{[]byte{4, 9, 10}, api.ErrShort},
		{[]byte{4, 9, 10, 64, 0, 1}, api.ErrBadPrefix},
		{[]byte{4, 9, 10, 64}, api.ErrBadPrefix},
		{[]byte{4, 8, 10}, api.ErrShort},
		{[]byte{4, 8, 10, 1}, api.ErrShort},
		{[]byte{6, 0}, api.ErrShort},
	} {
		wantAll(t, c.last, nil, c.e)
		wantAll(t, append(slices.Clone(ahead), c.last...), nil, c.e)
	}
	// The first error of several, and none of what is good behind it.
	wantAll(t, []byte{4, 0, 0, 1, 4, 33, 0, 1, 7, 0, 0, 1}, nil, api.ErrBadPrefix)
	wantAll(t, []byte{4, 0, 0, 1, 7, 0, 0, 1, 4, 33, 0, 1}, nil, api.ErrForm)
	wantAll(t, []byte{5, 0, 4, 0, 0, 1}, nil, api.ErrForm)
}

func TestGetAllAgainstReading(t *testing.T) {
	whole := PutAll(goodRoutes())[:400]
	for n := range whole {
		l, e := readAll(whole[:n])
		wantAll(t, whole[:n], l, e)
	}
	for place := range 120 { // one byte that is another one
		for _, x := range []byte{0, 1, 4, 6, 9, 33, 129, 255} {
			b := slices.Clone(whole[:120])
			b[place] = x
			l, e := readAll(b)
			wantAll(t, b, l, e)
		}
	}
}

// P4.4

func TestPutThenGet(t *testing.T) {
	for _, p := range saneSamples() {
		b := Put(nil, p)
		for _, behind := range behinds {
			wantPrefix(t, append(slices.Clone(b), behind...), p, len(b), api.OK)
		}
		wantPrefix(t, b[:len(b)-1], api.Prefix{}, 0, api.ErrShort)
	}
}

func TestPutRouteThenGetRoute(t *testing.T) {
	for _, p := range saneSamples() {
		for _, hop := range goodHops {
			r := api.Route{P: p, Hop: hop}
			b := PutRoute(nil, r)
			for _, behind := range behinds {
				wantRoute(t, append(slices.Clone(b), behind...), r, len(b), api.OK)
			}
			wantRoute(t, b[:len(b)-1], api.Route{}, 0, api.ErrShort)
		}
	}
}

func TestPutAllThenGetAll(t *testing.T) {
	l := goodRoutes()
	for n := range 60 {
		b := PutAll(l[n : n+n/2])
		wantAll(t, b, l[n:n+n/2], api.OK)
		if len(b) > 0 {
			wantAll(t, b[:len(b)-1], nil, api.ErrShort)
		}
	}
	b := PutAll(l)
	wantAll(t, b, l, api.OK)
	wantAll(t, b[:len(b)-1], nil, api.ErrShort)
}

// What is handed in

func TestWhatIsHandedInStays(t *testing.T) {
	r := api.Route{P: onpaper.Cut(mixedHi, mixedLo, 128, true), Hop: 513}
	bad := api.Route{P: api.Prefix{N: 33}, Hop: 513}
	for size := range 40 {
		room := bytes.Repeat([]byte{0xAA}, 64)
		was := slices.Clone(room)
		for _, answer := range [][]byte{Put(room[:size], r.P), PutRoute(room[:size], r), Put(room[:size], bad.P), PutRoute(room[:size], bad)} {
			if !bytes.Equal(room, was) {
				t.Fatalf("b with room behind its end was changed: %v", room)
			}
			for i := range answer[:cap(answer)] {
				answer[:cap(answer)][i] = 0x55
			}
			if !bytes.Equal(room, was) {
				t.Fatalf("an answer shares memory with b: %v", room)
			}
		}
	}
}

func TestTwoBehindOne(t *testing.T) {
	room := make([]byte, 1, 64)
	one := PutRoute(room, api.Route{Hop: 1})
	two := PutRoute(room, api.Route{Hop: 2})
	if !bytes.Equal(one, []byte{0, 4, 0, 0, 1}) || !bytes.Equal(two, []byte{0, 4, 0, 0, 2}) {
		t.Errorf("two routes behind the same bytes are %v and %v", one, two)
	}
}

func TestListsStay(t *testing.T) {
	l := append(goodRoutes(), api.Route{Hop: -1}, api.Route{P: api.Prefix{N: 33}})
	was := slices.Clone(l)
	b := PutAll(l)
	if !slices.Equal(l, was) {
		t.Error("PutAll changed its list")
	}
	bytesWere := slices.Clone(b)
	Get(b)
	GetRoute(b)
	GetAll(b)
	if !bytes.Equal(b, bytesWere) {
		t.Error("a reader changed its bytes")
	}
	got, _ := GetAll(b)
	clear(b)
	if want := goodRoutes(); !slices.Equal(got, want) {
		t.Error("routes hang on the bytes that they were read from")
	}
}

// P1: long lists end within the time of a test, so that what is ahead is not gone over anew for each route.

func TestLongLists(t *testing.T) {
	l := make([]api.Route, 1<<18)
	for i := range l {
		l[i] = api.Route{P: onpaper.Cut(mixedHi, mixedLo, 128, true), Hop: i % 65536}
	}
	b := PutAll(l)
	if len(b) != 20*len(l) {
		t.Fatalf("%d routes have %d bytes", len(l), len(b))
	}
	wantSame := func(got []api.Route, e api.Errno) {
		if !slices.Equal(got, l) || e != api.OK {
			t.Errorf("of %d routes %d are got, and error %d", len(l), len(got), e)
		}
	}
	wantSame(GetAll(b))
	if got, e := GetAll(b[:len(b)-1]); len(got) != 0 || e != api.ErrShort {
		t.Errorf("%d routes, and error %d", len(got), e)
	}
}

// FuzzGet: bytes of any kind, against the chapter's reading of them.
func FuzzGet(f *testing.F) {
	for _, p := range saneSamples()[:40] {
		f.Add(append(onpaper.Laid(p), 1, 2))
	}
	f.Fuzz(func(t *testing.T, b []byte) {
		b = b[:min(len(b), 1000)]
		p, n, e := read(b)
		wantPrefix(t, b, p, n, e)
		r, n, e := readRoute(b)
		wantRoute(t, b, r, n, e)
		l, e := readAll(b)
		wantAll(t, b, l, e)
	})
}
