package text

import (
	"fmt"
	"math"
	"net/netip"
	"runtime"
	"strconv"
	"strings"
	"testing"

	"kedge/addr"
	"kedge/api"
	"kedge/prefix"
)

// The tests hold the package against texts written out by hand, and against the library's own reading of addresses (net/netip), which a program may not use but a test may.

const all = math.MaxUint64

func short(x uint32) api.Addr { return api.Addr{Hi: uint64(x) << 32} }

func long(hi, lo uint64) api.Addr { return api.Addr{Hi: hi, Lo: lo, V6: true} }

// ofGroups is the address that has these groups.
func ofGroups(g []uint16) api.Addr {
	a := api.Addr{V6: true}
	for i, x := range g {
		if i < 4 {
			a.Hi |= uint64(x) << (48 - 16*i)
		} else {
			a.Lo |= uint64(x) << (112 - 16*i)
		}
	}
	return a
}

// written are groups with colons between, none left out.
func written(g []uint16) string {
	var l []string
	for _, x := range g {
		l = append(l, fmt.Sprintf("%x", x))
	}
	return strings.Join(l, ":")
}

// zeroed are eight groups; those that a mask has a 1 for are 0.
func zeroed(mask int) []uint16 {
	g := []uint16{0x2001, 0xdb8, 0x30, 0x400, 0xf00d, 6, 0xffff, 0x8000}
	for i := range g {
		if mask>>i&1 == 1 {
			g[i] = 0
		}
	}
	return g
}

// library is what net/netip reads; zones, and numbers behind groups, are forms of its own.
func library(s string) (api.Addr, api.Errno) {
	x, err := netip.ParseAddr(s)
	if err != nil || x.Zone() != "" || strings.Contains(s, ":") && strings.Contains(s, ".") {
		return api.Addr{}, api.ErrForm
	}
	return addr.From(x.AsSlice())
}

// libraryPrint is what net/netip writes; it writes numbers behind ::ffff, that the chapter does not have.
func libraryPrint(a api.Addr) string {
	x, _ := netip.AddrFromSlice(addr.Bytes(a))
	if x.Is4In6() {
		return "::ffff:" + fmt.Sprintf("%x:%x", a.Lo>>16&0xffff, a.Lo&0xffff)
	}
	return x.String()
}

func wantAddr(t *testing.T, s string, want api.Addr) {
	t.Helper()
	if a, e := ParseAddr(s); a != want || e != api.OK {
		t.Errorf("ParseAddr(%q) = %v, %d, not %v", s, a, e, want)
	}
}

// wantNoAddr: ErrForm, and nothing beside it, also of a prefix with that address.
func wantNoAddr(t *testing.T, s string) {
	t.Helper()
	if a, e := ParseAddr(s); a != (api.Addr{}) || e != api.ErrForm {
		t.Errorf("ParseAddr(%q) = %v, %d", s, a, e)
	}
	if p, e := Parse(s + "/0"); p != (api.Prefix{}) || e != api.ErrForm {
		t.Errorf("Parse(%q) = %v, %d", s+"/0", p, e)
	}
}

func wantNoPrefix(t *testing.T, s string, want api.Errno) {
	t.Helper()
	if p, e := Parse(s); p != (api.Prefix{}) || e != want {
		t.Errorf("Parse(%q) = %v, %d, not %d", s, p, e, want)
	}
}

// P3.1

func TestPrintAddr(t *testing.T) {
	for _, c := range []struct {
		a    api.Addr
		want string
	}{
		{api.Addr{}, "0.0.0.0"},
		{short(0xC0A80001), "192.168.0.1"},
		{short(0x0A0A6463), "10.10.100.99"},
		{short(0xFFFFFFFF), "255.255.255.255"},
		{api.Addr{Hi: 0x01020304<<32 | 5, Lo: 9}, "1.2.3.4"},
		{api.Addr{Hi: all, Lo: all}, "255.255.255.255"},
		{api.Addr{Lo: all}, "0.0.0.0"},
		{long(0x0001000200030004, 0x0005000600070008), "1:2:3:4:5:6:7:8"},
		{long(0x0123456789ABCDEF, 0x0FEDCBA987654321), "123:4567:89ab:cdef:fed:cba9:8765:4321"},
		{long(0x2001000001000010, 0x0001F00000F00001), "2001:0:100:10:1:f000:f0:1"},
		{long(all, all), "ffff:ffff:ffff:ffff:ffff:ffff:ffff:ffff"},
		{long(0, 0), "::"},
		{long(0, 1), "::1"},
		{long(0, 1<<16), "::1:0"},
		{long(1<<48, 0), "1::"},
		{long(1<<32, 0), "0:1::"},
		{long(0, 0x0000FFFF01020304), "::ffff:102:304"},
		{long(0x20010DB800000000, 0), "2001:db8::"},
		{long(0x20010DB800000000, 0x0001000000000001), "2001:db8::1:0:0:1"},
		{long(0x0000000200030004, 0x0005000600070008), "0:2:3:4:5:6:7:8"},
		{long(0x0001000200030004, 0x0005000600070000), "1:2:3:4:5:6:7:0"},
		{long(0x0000000200000004, 0x0000000600000008), "0:2:0:4:0:6:0:8"},
		{long(0x0000000000030004, 0x0005000600070008), "::3:4:5:6:7:8"},
		{long(0x0001000200030004, 0x0005000600000000), "1:2:3:4:5:6::"},
		{long(0x0001000000030000, 0x0000000600070008), "1:0:3::6:7:8"},
		{long(0x0000000000030000, 0x0000000600000000), "::3:0:0:6:0:0"},
		{long(0x0001000000000004, 0x0000000000000008), "1:0:0:4::8"},
		{long(0x0000000000030004, 0x0005000000000000), "0:0:3:4:5::"},
	} {
		if s := PrintAddr(c.a); s != c.want {
			t.Errorf("PrintAddr(%v) = %q, not %q", c.a, s, c.want)
		}
	}
}

func TestPrintAddrAtEachRunOfZeros(t *testing.T) {
	for mask := range 256 {
		a := ofGroups(zeroed(mask))
		if s := PrintAddr(a); s != libraryPrint(a) {
			t.Errorf("PrintAddr(%s) = %q, not %q", written(zeroed(mask)), s, libraryPrint(a))
		}
	}
}

func TestPrintAddrOfEachNumberAndGroup(t *testing.T) {
	for x := range 256 {
		n := strconv.Itoa(x)
		if s := PrintAddr(short(uint32(x)<<24 | uint32(x))); s != n+".0.0."+n {
			t.Errorf("%d: %q", x, s)
		}
	}
	for x := range 1 << 16 {
		want := fmt.Sprintf("1:%x:1:1:1:1:1:%x", x, x)
		if s := PrintAddr(ofGroups([]uint16{1, uint16(x), 1, 1, 1, 1, 1, uint16(x)})); s != want {
			t.Errorf("%q, not %q", s, want)
		}
	}
}

// P3.2

func TestParseAddrShort(t *testing.T) {
	wantAddr(t, "0.0.0.0", api.Addr{})
	wantAddr(t, "192.168.0.1", short(0xC0A80001))
	wantAddr(t, "255.255.255.255", short(0xFFFFFFFF))
	for _, s := range []string{"", " ", ".", "...", "1", "1.2", "1.2.3", "1.2.3.", ".1.2.3", ".1.2.3.4", "1.2.3.4.", "1..2.3", "1.2..3.4", "1.2.3.4.5", "1,2,3,4", "1.2.3:4", "1.2.3.4 ", " 1.2.3.4", "1. 2.3.4", "+1.2.3.4", "-1.2.3.4", "1.2.3.-4", "1.2.3.-0", "1_0.2.3.4", "0x1.2.3.4", "1.2.3.a", "1.2.3.F", "1e1.2.3.4", "1.2.3.4/8", "16909060", "\x00.0.0.0", "1.2.3.4\x00"} {
		wantNoAddr(t, s)
	}
}

func TestParseAddrEachNumber(t *testing.T) {
	for x := range 1100 {
		n := strconv.Itoa(x)
		for i, s := range []string{n + ".0.0.0", "0." + n + ".0.0", "0.0." + n + ".0", "0.0.0." + n} {
			if x <= 255 {
				wantAddr(t, s, short(uint32(x)<<(24-8*i)))
			} else {
				wantNoAddr(t, s)
			}
			wantNoAddr(t, strings.Replace(s, n, "0"+n, 1))
			wantNoAddr(t, strings.Replace(s, n, "00"+n, 1))
		}
	}
	for _, n := range []string{"256", "999", "1000", "65536", "4294967296", "4294967297", "18446744073709551615", "18446744073709551616", "18446744073709551617", "36893488147419103233", strings.Repeat("9", 5000), strings.Repeat("0", 5000), "1" + strings.Repeat("0", 64)} {
		wantNoAddr(t, n+".0.0.0")
		wantNoAddr(t, "0.0.0."+n)
	}
}

func TestParseAddrLong(t *testing.T) {
	wantAddr(t, "1:2:3:4:5:6:7:8", long(0x0001000200030004, 0x0005000600070008))
	wantAddr(t, "0:0:0:0:0:0:0:0", long(0, 0))
	wantAddr(t, "0000:0000:0000:0000:0000:0000:0000:0001", long(0, 1))
	wantAddr(t, "ABCD:abcd:AbCd:EF01:ef01:0eF0:00f:F", long(0xABCDABCDABCDEF01, 0xEF010EF0000F000F))
	wantAddr(t, "::", long(0, 0))
	wantAddr(t, "::1", long(0, 1))
	wantAddr(t, "1::", long(1<<48, 0))
	wantAddr(t, "1::8", long(1<<48, 8))
	wantAddr(t, "::ffff:102:304", long(0, 0x0000FFFF01020304))
	wantAddr(t, "2001:DB8::8:800:200c:417A", long(0x20010DB800000000, 0x00080800200C417A))
	wantAddr(t, "::2:3:4:5:6:7:8", long(0x0000000200030004, 0x0005000600070008))
	wantAddr(t, "1:2:3:4::6:7:8", long(0x0001000200030004, 0x0000000600070008))
	wantAddr(t, "1:2:3:4:5:6:7::", long(0x0001000200030004, 0x0005000600070000))
	wantAddr(t, "0::0", long(0, 0))
	wantAddr(t, "10::10", long(0x10<<48, 0x10))
	for _, s := range []string{":", ":::", "::::", "1", "1:", ":1", "1:2", "1:2:3:4:5:6:7", "1:2:3:4:5:6:7:", ":2:3:4:5:6:7:8", "1:2:3:4:5:6:7:8:", ":1:2:3:4:5:6:7:8", "1:2:3:4:5:6:7:8:9", "1::2::3", "::1::", "1::::2", "1:::2", ":::1", "1:::", "1::2:", ":1::2", "g::", "::G", "::1g", "::-1", "::+1", ":: 1", "::1 ", " ::1", "::0x1", "::1.2.3.4", "1:2:3:4:5:6:1.2.3.4", "::ffff:1.2.3.4", "1.2.3.4::", "[::1]", "::1%0", "::1%eth", "::/0", "1;2;3;4;5;6;7;8", "\x00::", "::\xff"} {
		wantNoAddr(t, s)
	}
}

func TestParseAddrEachGroup(t *testing.T) {
	for x := range 1 << 16 {
		want := long(uint64(x)<<48, uint64(x))
		for _, form := range []string{"%x", "%X", "%04x", "%04X"} {
			n := fmt.Sprintf(form, x)
			wantAddr(t, n+"::"+n, want)
		}
		wantNoAddr(t, fmt.Sprintf("%05x::", x))
		wantNoAddr(t, fmt.Sprintf("::%05X", x))
	}
	for _, n := range []string{"12345", "10000", "00001", "00000", "fffff", "100000000", "10000000000000001", strings.Repeat("0", 5000), strings.Repeat("f", 5000)} {
		wantNoAddr(t, n+"::")
		wantNoAddr(t, "::"+n)
		wantNoAddr(t, "1:2:3:"+n+":5:6:7:8")
	}
}

// Two colons stand for any run of zero groups, also for one of them and for a part of a longer run; all these ways are printed in one.
func TestParseAddrTwoColonsAtEachPlace(t *testing.T) {
	for mask := range 256 {
		g := zeroed(mask)
		want := ofGroups(g)
		wantAddr(t, written(g), want)
		wantAddr(t, PrintAddr(want), want)
		for from := range g {
			for to := from + 1; to <= 8 && g[to-1] == 0; to++ {
				s := written(g[:from]) + "::" + written(g[to:])
				wantAddr(t, s, want)
				if a, _ := ParseAddr(s); PrintAddr(a) != libraryPrint(want) {
					t.Errorf("%q is printed %q", s, PrintAddr(a))
				}
			}
		}
	}
}

// How many groups there are decides: eight without two colons, fewer with them, and two colons once.
func TestParseAddrHowManyGroups(t *testing.T) {
	for n := range 20 {
		g := make([]uint16, n)
		for i := range g {
			g[i] = uint16(i + 1)
		}
		if n != 8 {
			wantNoAddr(t, written(g))
		}
		for at := range n + 1 {
			s := written(g[:at]) + "::" + written(g[at:])
			if n >= 8 {
				wantNoAddr(t, s)
				continue
			}
			full := append(append(append([]uint16{}, g[:at]...), make([]uint16, 8-n)...), g[at:]...)
			wantAddr(t, s, ofGroups(full))
			for next := at + 1; next <= n; next++ {
				wantNoAddr(t, written(g[:at])+"::"+written(g[at:next])+"::"+written(g[next:]))
			}
		}
	}
	for _, n := range []int{100, 1 << 20} {
		wantNoAddr(t, strings.Repeat(":", n))
		wantNoAddr(t, strings.Repeat("1:", n)+"1")
		wantNoAddr(t, "::"+strings.Repeat("1:", n)+"1")
		wantNoAddr(t, strings.Repeat(".", n))
		wantNoAddr(t, strings.Repeat("1.", n)+"1")
	}
}

// A long text does not become a long list: memory would run out at one as long as may be handed in.
func TestParseAddrLittleMemory(t *testing.T) {
	for _, part := range []string{":", "1:", ".", "1.", "::1", "9", "0", "f", "/"} {
		s := strings.Repeat(part, 1<<20)
		var was, is runtime.MemStats
		runtime.ReadMemStats(&was)
		ParseAddr(s)
		Parse(s)
		runtime.ReadMemStats(&is)
		if used := is.TotalAlloc - was.TotalAlloc; used > 1<<19 {
			t.Errorf("%q over and over: %d bytes", part, used)
		}
	}
}

// Bytes of any kind, and runes whose last byte is one of the form's, put in and put over at each place.
func TestParseAddrAnyBytes(t *testing.T) {
	var odd []string
	for b := range 256 {
		odd = append(odd, string([]byte{byte(b)}))
	}
	odd = append(odd, "", "\u0130", "\u0131", "\u0161", "\u012e", "\u013a", "\u012f", "\u0661", "\uff11", "\uff1a", "\uff0e", "\u2024", "\ufffd", "\U00010031", "\xc0\xb1", "\xed\xa0\x80", "é", "::", "..", "/", "%a", "00", "ff", "25")
	for _, s := range []string{"0.0.0.0", "1.20.255.9", "::", "::1", "a::", "1:2:3:4:5:6:7:8", "1:2:3::6:7:8", "::2:3:4:5:6:7:8", "1:2:3:4:5:6:7::", "FFFF:0:0:eeee::9"} {
		for i := range len(s) + 1 {
			for _, x := range odd {
				held(t, s[:i]+x+s[i:])
				if i < len(s) {
					held(t, s[:i]+x+s[i+1:])
				}
			}
		}
	}
}

// Every text of a few of the form's bytes.
func TestParseAddrShortTexts(t *testing.T) {
	texts := []string{""}
	for range 8 {
		for _, s := range texts {
			held(t, s)
		}
		var more []string
		for _, s := range texts {
			for _, x := range []string{"0", "1", ":", "."} {
				more = append(more, s+x)
			}
		}
		texts = more
	}
}

// held holds ParseAddr against the library.
func held(t *testing.T, s string) {
	t.Helper()
	want, wantE := library(s)
	if a, e := ParseAddr(s); a != want || e != wantE {
		t.Errorf("ParseAddr(%q) = %v, %d, not %v, %d", s, a, e, want, wantE)
	}
}

// P3.3

func TestPrint(t *testing.T) {
	for _, c := range []struct {
		p    api.Prefix
		want string
	}{
		{api.Prefix{}, "0.0.0.0/0"},
		{api.Prefix{A: short(0x0A000000), N: 8}, "10.0.0.0/8"},
		{api.Prefix{A: short(0x01020304), N: 32}, "1.2.3.4/32"},
		{api.Prefix{A: long(0, 0)}, "::/0"},
		{api.Prefix{A: long(0x20010DB800000000, 0), N: 32}, "2001:db8::/32"},
		{api.Prefix{A: long(0, 1), N: 128}, "::1/128"},
		{api.Prefix{A: short(0x01020304), N: 8}, "1.2.3.4/8"}, // one that may not be is told as it is
		{api.Prefix{A: short(0x01020304), N: 33}, "1.2.3.4/33"},
		{api.Prefix{A: api.Addr{Hi: 0x01020304<<32 | 5, Lo: 9}, N: 32}, "1.2.3.4/32"},
		{api.Prefix{A: long(0, 0), N: 1000}, "::/1000"},
		{api.Prefix{N: -1}, "0.0.0.0/-1"},
		{api.Prefix{A: long(0, 1), N: -128}, "::1/-128"},
		{api.Prefix{N: math.MaxInt}, "0.0.0.0/9223372036854775807"},
		{api.Prefix{N: math.MinInt}, "0.0.0.0/-9223372036854775808"},
	} {
		if s := Print(c.p); s != c.want {
			t.Errorf("Print(%v) = %q, not %q", c.p, s, c.want)
		}
	}
}

func TestParse(t *testing.T) {
	for s, want := range map[string]api.Prefix{
		"0.0.0.0/0":           {},
		"10.0.0.0/8":          {A: short(0x0A000000), N: 8},
		"10.0.0.0/7":          {A: short(0x0A000000), N: 7},
		"1.2.3.4/32":          {A: short(0x01020304), N: 32},
		"::/0":                {A: long(0, 0)},
		"::/128":              {A: long(0, 0), N: 128},
		"::1/128":             {A: long(0, 1), N: 128},
		"2001:DB8::/32":       {A: long(0x20010DB800000000, 0), N: 32},
		"2001:db8:0:0:1::/80": {A: long(0x20010DB800000000, 1<<48), N: 80},
		"1:2:3:4:5:6:7::/112": {A: long(0x0001000200030004, 0x0005000600070000), N: 112},
		"ffff:ffff::/32":      {A: long(0xFFFFFFFF00000000, 0), N: 32},
		"0:0:0:0:8000::0/65":  {A: long(0, 1<<63), N: 65},
		"255.255.255.255/32":  {A: short(0xFFFFFFFF), N: 32},
		"128.0.0.0/1":         {A: short(0x80000000), N: 1},
		"0:0:0:0:0:0:0:0/0":   {A: long(0, 0)},
		"0000::0000:0000/0":   {A: long(0, 0)},
		"ABCD::/16":           {A: long(0xABCD<<48, 0), N: 16},
		"192.168.100.128/25":  {A: short(0xC0A86480), N: 25},
		"2001:db8:8000::/33":  {A: long(0x20010DB880000000, 0), N: 33},
		"::ffff:102:304/128":  {A: long(0, 0x0000FFFF01020304), N: 128},
		"1:0:0:2:0:0:0:3/128": {A: long(0x0001000000000002, 3), N: 128},
		"::2:3:4:5:6:7:8/128": {A: long(0x0000000200030004, 0x0005000600070008), N: 128},
		"1:2:3:4:5:6:7:8/128": {A: long(0x0001000200030004, 0x0005000600070008), N: 128},
	} {
		if p, e := Parse(s); p != want || e != api.OK {
			t.Errorf("Parse(%q) = %v, %d", s, p, e)
		}
	}
	for _, s := range []string{"", "/", "//", "/8", "8", "1.2.3.4", "::", "2001:db8::", "1.2.3.4/", "::/", "1.2.3.4/8/8", "1.2.3.4/32/", "1.2.3.4//32", "/1.2.3.4/32", "::/0/0", "::/0/", "::1/-1", "::/-0", "::/+0", "::/ 0", "::/0 ", " ::/0", ":: /0", "::/00", "::/01", "0.0.0.0/08", "::/0x0", "::/a", "::/1e1", "::/1_0", "::/0.0", "::/::", "::/\xff", "::/\u0661", "::/\u0130", "\xff/0", "0.0.0.0\x00/0", "0.0.0.0/0\x00", "0.0.0.0\\0", "0.0.0.0\u012f0", "1.2.3/8", "1.2.3.4.5/8", "01.2.3.4/8", "1.2.3.256/32", ":::/0", "1::2::3/0", "12345::/0"} {
		wantNoPrefix(t, s, api.ErrForm)
	}
}

func TestParseEachLength(t *testing.T) {
	for n := range 1100 {
		for _, c := range []struct {
			s string
			a api.Addr
			w int
		}{{"0.0.0.0", api.Addr{}, 32}, {"::", long(0, 0), 128}} {
			s := c.s + "/" + strconv.Itoa(n)
			switch {
			case n > 999:
				wantNoPrefix(t, s, api.ErrForm)
			case n > c.w:
				wantNoPrefix(t, s, api.ErrBadPrefix)
			default:
				if p, e := Parse(s); p != (api.Prefix{A: c.a, N: n}) || e != api.OK {
					t.Errorf("Parse(%q) = %v, %d", s, p, e)
				}
			}
			wantNoPrefix(t, c.s+"/0"+strconv.Itoa(n), api.ErrForm)
		}
	}
	for _, n := range []string{"1000", "4294967296", "18446744073709551616", "18446744073709551624", strings.Repeat("9", 5000), strings.Repeat("0", 5000), "1" + strings.Repeat("0", 64)} {
		wantNoPrefix(t, "0.0.0.0/"+n, api.ErrForm)
		wantNoPrefix(t, "::/"+n, api.ErrForm)
	}
}

// A prefix with digits behind its length may not be; each length of one digit alone.
func TestParseBadPrefix(t *testing.T) {
	for _, s := range []string{"11.0.0.0/7", "1.2.3.4/0", "1.2.3.5/31", "1.2.3.4/33", "0.0.0.1/31", "128.0.0.0/0", "::1/127", "::1/0", "8000::/0", "::/129", "::/999", "1.2.3.4/999", "2001:DB8:0:0:1:0:0:1/64", "1:2:3:4:5:6:7:8/124", "0.0.0.0/64", "0.0.0.0/128"} {
		wantNoPrefix(t, s, api.ErrBadPrefix)
	}
	for _, a := range []api.Addr{{}, long(0, 0)} {
		for i := range addr.Width(a.V6) {
			s := PrintAddr(addr.Set(a, i, 1))
			for n := range addr.Width(a.V6) + 1 {
				p, e := Parse(s + "/" + strconv.Itoa(n))
				if n <= i && (p != (api.Prefix{}) || e != api.ErrBadPrefix) || n > i && (p != api.Prefix{A: addr.Set(a, i, 1), N: n} || e != api.OK) {
					t.Errorf("Parse(%q/%d) = %v, %d", s, n, p, e)
				}
			}
		}
	}
}

// The form is looked at ahead of whether the prefix may be.
func TestParseOrderOfErrors(t *testing.T) {
	wantNoPrefix(t, "1.2.3.4/1000", api.ErrForm)
	wantNoPrefix(t, "1.2.3.4/8/", api.ErrForm)
	wantNoPrefix(t, "1.2.3.4.5/999", api.ErrForm)
	wantNoPrefix(t, "1.2.3.4/08", api.ErrForm)
	wantNoPrefix(t, "1.2.3.4/999", api.ErrBadPrefix)
}

// P3.4

// prefixes are such as may be, of each length, with runs of zero groups of each kind.
func prefixes() []api.Prefix {
	var l []api.Prefix
	for mask := range 256 {
		for n := range 129 {
			l = append(l, prefix.Of(ofGroups(zeroed(mask)), n))
		}
	}
	for _, x := range []uint32{0, 1, 0x0A0A0A0A, 0x64C8FF01, 0xFF00FF00, math.MaxUint32} {
		for n := range 33 {
			l = append(l, prefix.Of(short(x), n))
		}
	}
	return l
}

func TestPrintedIsParsed(t *testing.T) {
	for _, p := range prefixes() {
		if a, e := ParseAddr(PrintAddr(p.A)); a != p.A || e != api.OK {
			t.Errorf("%v is printed %q, which is parsed %v, %d", p.A, PrintAddr(p.A), a, e)
		}
		if q, e := Parse(Print(p)); q != p || e != api.OK {
			t.Errorf("%v is printed %q, which is parsed %v, %d", p, Print(p), q, e)
		}
	}
}

// All writings of one prefix are printed as one text, and unlike prefixes as unlike texts.
func TestParsedIsPrintedInOneWay(t *testing.T) {
	for want, l := range map[string][]string{
		"::/0":                {"::/0", "0::/0", "::0/0", "0::0/0", "0000::/0", "0:0:0:0:0:0:0:0/0", "0:0:0::0:0:0/0", "0:0:0:0:0:0:0::/0", "::0:0:0:0:0:0:0/0"},
		"1:0:0:2::/64":        {"1:0:0:2::/64", "1::2:0:0:0:0/64", "1:0:0:2:0:0:0:0/64", "0001:0000::0002:0:0:0:0/64"},
		"1::2:0:0:4:3/128":    {"1::2:0:0:4:3/128", "1:0:0:2::4:3/128", "1:0:0:2:0:0:4:3/128", "1::0:2:0:0:4:3/128"},
		"1:0:2:3:4:5:6:7/128": {"1:0:2:3:4:5:6:7/128", "1::2:3:4:5:6:7/128"},
		"2001:db8:ab::/48":    {"2001:db8:ab::/48", "2001:DB8:AB::/48", "2001:0dB8:00Ab::0/48"},
		"10.0.0.0/8":          {"10.0.0.0/8"},
	} {
		for _, s := range l {
			if p, e := Parse(s); e != api.OK || Print(p) != want {
				t.Errorf("%q is printed %q (%d), not %q", s, Print(p), e, want)
			}
		}
	}
	was := map[string]api.Prefix{}
	for _, p := range prefixes() {
		s := Print(p)
		if q, ok := was[s]; ok && q != p {
			t.Errorf("%v and %v are both printed %q", p, q, s)
		}
		was[s] = p
	}
}
