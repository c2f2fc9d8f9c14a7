package prefix

import (
	"cmp"
	"fmt"
	"math"
	"strings"
	"testing"

	"kedge/addr"
	"kedge/api"
)

const all = math.MaxUint64

// The tests hold the package against digits written out as text, straight from the fields of an address.

// digits are all 128 places of an address, those that a short one does not have among them.
func digits(a api.Addr) string { return fmt.Sprintf("%064b%064b", a.Hi, a.Lo) }

func width(v6 bool) int {
	if v6 {
		return 128
	}
	return 32
}

// there are the digits that an address has.
func there(a api.Addr) string { return digits(a)[:width(a.V6)] }

// address is the one that begins with these digits and goes on with one digit to its end.
func address(first, rest string, v6 bool) api.Addr {
	s := first + strings.Repeat(rest, width(v6)-len(first))
	s += strings.Repeat("0", 128-len(s))
	a := api.Addr{V6: v6}
	for i := range 64 {
		a.Hi = a.Hi<<1 | uint64(s[i]-'0')
		a.Lo = a.Lo<<1 | uint64(s[64+i]-'0')
	}
	return a
}

// made is the prefix that has just these digits.
func made(first string, v6 bool) api.Prefix {
	return api.Prefix{A: address(first, "0", v6), N: len(first)}
}

// bring is n, brought to 0 to the width.
func bring(n int, v6 bool) int {
	if n < 0 {
		return 0
	}
	if n > width(v6) {
		return width(v6)
	}
	return n
}

func mayBe(p api.Prefix) bool {
	return p.N >= 0 && p.N <= width(p.A.V6) && !strings.Contains(digits(p.A)[p.N:], "1")
}

// lengths are within and beyond both kinds of address.
var lengths = []int{math.MinInt, -129, -32, -1, 0, 1, 2, 8, 9, 16, 31, 32, 33, 63, 64, 65, 127, 128, 129, 1 << 32, math.MaxInt}

func addresses() []api.Addr {
	l := []api.Addr{}
	for _, hi := range []uint64{0, 1, 1 << 31, 1 << 32, 1 << 63, 0x0A010203 << 32, 0x0AFFFFFF << 32, 0x20010DB800000000, all} {
		for _, lo := range []uint64{0, 1, 1 << 63, all} {
			l = append(l, api.Addr{Hi: hi, Lo: lo}, api.Addr{Hi: hi, Lo: lo, V6: true})
		}
	}
	return l
}

// samples are prefixes of both kinds, some of them not Sane, none of them twice.
func samples() []api.Prefix {
	var l []api.Prefix
	was := map[api.Prefix]bool{}
	put := func(p api.Prefix) {
		if !was[p] {
			was[p] = true
			l = append(l, p)
		}
	}
	for i, a := range addresses() {
		for k, n := range lengths {
			put(made(digits(a)[:bring(n, a.V6)], a.V6))
			if (i+k)%5 == 0 {
				put(api.Prefix{A: a, N: n})
			}
		}
	}
	return l
}

// sane are those of the samples that may be.
func sane() []api.Prefix {
	var l []api.Prefix
	for _, p := range samples() {
		if mayBe(p) {
			l = append(l, p)
		}
	}
	return l
}

// wrong are prefixes that are not Sane, each for a reason of its own.
var wrong = []api.Prefix{
	{N: -1},
	{N: 33},
	{N: math.MinInt},
	{N: math.MaxInt},
	{A: api.Addr{V6: true}, N: -1},
	{A: api.Addr{V6: true}, N: 129},
	{A: api.Addr{Hi: 1}, N: 32},
	{A: api.Addr{Hi: 1 << 31}, N: 32},
	{A: api.Addr{Lo: 1}, N: 32},
	{A: api.Addr{Lo: 1}, N: 0},
	{A: api.Addr{Hi: 10 << 56}, N: 4},
	{A: api.Addr{Hi: 1 << 32}, N: 31},
	{A: api.Addr{Lo: 1, V6: true}, N: 127},
	{A: api.Addr{Hi: 1, V6: true}, N: 63},
	{A: api.Addr{Lo: 1 << 63, V6: true}, N: 64},
}

// four is a prefix of an address of four bytes.
func four(a, b, c, d byte, n int) api.Prefix {
	return api.Prefix{A: api.Addr{Hi: uint64(a)<<56 | uint64(b)<<48 | uint64(c)<<40 | uint64(d)<<32}, N: n}
}

// P2.1

func TestSane(t *testing.T) {
	for _, p := range []api.Prefix{
		{},
		{A: api.Addr{V6: true}},
		four(10, 0, 0, 0, 8),
		four(10, 0, 0, 0, 7),
		four(10, 0, 0, 0, 32),
		four(255, 255, 255, 255, 32),
		{A: api.Addr{Hi: all, Lo: all, V6: true}, N: 128},
		{A: api.Addr{Hi: all, V6: true}, N: 64},
		{A: api.Addr{Lo: 1 << 63, V6: true}, N: 65},
	} {
		if !Sane(p) {
			t.Error(p)
		}
	}
	for _, p := range wrong {
		if Sane(p) {
			t.Error(p)
		}
	}
	for _, p := range samples() {
		if Sane(p) != mayBe(p) {
			t.Error(p, Sane(p))
		}
	}
}

func TestOf(t *testing.T) {
	if p := Of(four(10, 7, 7, 7, 0).A, 8); p != four(10, 0, 0, 0, 8) {
		t.Error(p)
	}
	for _, a := range addresses() {
		for n := -3; n < 133; n++ {
			if p := Of(a, n); p != made(digits(a)[:bring(n, a.V6)], a.V6) {
				t.Error(a, n, p)
			}
		}
		for _, n := range lengths {
			if p := Of(a, n); p != made(digits(a)[:bring(n, a.V6)], a.V6) {
				t.Error(a, n, p)
			}
		}
	}
}

// P2.2

func TestContains(t *testing.T) {
	ten := four(10, 0, 0, 0, 8)
	for _, c := range []struct {
		a    api.Addr
		want bool
	}{
		{four(10, 0, 0, 0, 0).A, true},
		{four(10, 255, 255, 255, 0).A, true},
		{four(9, 255, 255, 255, 0).A, false},
		{four(11, 0, 0, 0, 0).A, false},
		{api.Addr{Hi: 10 << 56, V6: true}, false},
		{api.Addr{Hi: 10<<56 | 1<<31, Lo: all}, true},
	} {
		if Contains(ten, c.a) != c.want {
			t.Error(c.a, !c.want)
		}
	}
	for _, p := range samples() {
		for _, a := range addresses() {
			want := mayBe(p) && a.V6 == p.A.V6 && strings.HasPrefix(there(a), digits(p.A)[:p.N])
			if Contains(p, a) != want {
				t.Error(p, a, !want)
			}
		}
	}
}

// The address's digits that are none are not looked at, whatever N is.
func TestContainsAnAddressThatIsNotSane(t *testing.T) {
	for n := range 33 {
		a := api.Addr{Hi: 0x0A0B0C0D << 32}
		for _, more := range []api.Addr{{Hi: 1}, {Hi: 1 << 31}, {Lo: 1}, {Lo: 1 << 63}, {Hi: 1<<32 - 1, Lo: all}} {
			if bad := (api.Addr{Hi: a.Hi | more.Hi, Lo: more.Lo}); !Contains(made(digits(a)[:n], false), bad) {
				t.Error(n, bad)
			}
		}
	}
}

func TestCoversInsideApart(t *testing.T) {
	l := append(samples(), wrong...)
	first := make([]string, len(l))
	for i, p := range l {
		if mayBe(p) {
			first[i] = digits(p.A)[:p.N]
		}
	}
	for i, p := range l {
		for j, q := range l {
			both := mayBe(p) && mayBe(q)
			alike := both && p.A.V6 == q.A.V6
			covers := alike && strings.HasPrefix(first[j], first[i])
			back := alike && strings.HasPrefix(first[i], first[j])
			if Covers(p, q) != covers {
				t.Error("Covers", p, q, !covers)
			}
			if want := covers && q.N > p.N; Inside(p, q) != want {
				t.Error("Inside", p, q, !want)
			}
			if want := both && !covers && !back; Apart(p, q) != want {
				t.Error("Apart", p, q, !want)
			}
		}
	}
}

func TestExamplesOfCovering(t *testing.T) {
	ten := four(10, 0, 0, 0, 8)
	for _, c := range []struct {
		q                     api.Prefix
		covers, inside, apart bool
	}{
		{four(10, 1, 0, 0, 16), true, true, false},
		{ten, true, false, false},
		{four(10, 0, 0, 0, 9), true, true, false},
		{four(10, 0, 0, 0, 7), false, false, false},
		{four(11, 0, 0, 0, 8), false, false, true},
		{four(11, 0, 0, 0, 32), false, false, true},
		{four(0, 0, 0, 0, 0), false, false, false},
		{api.Prefix{A: api.Addr{Hi: 10 << 56, V6: true}, N: 8}, false, false, true},
		{api.Prefix{A: api.Addr{V6: true}}, false, false, true},
	} {
		if Covers(ten, c.q) != c.covers || Inside(ten, c.q) != c.inside || Apart(ten, c.q) != c.apart || Apart(c.q, ten) != c.apart {
			t.Error(c.q, Covers(ten, c.q), Inside(ten, c.q), Apart(ten, c.q), Apart(c.q, ten))
		}
	}
}

func TestNothingHoldsOfWhatIsNotSane(t *testing.T) {
	for _, bad := range wrong {
		for _, p := range []api.Prefix{{}, {A: api.Addr{V6: true}}, four(10, 0, 0, 0, 8), bad} {
			for _, x := range [][2]api.Prefix{{p, bad}, {bad, p}} {
				if Covers(x[0], x[1]) || Inside(x[0], x[1]) || Apart(x[0], x[1]) {
					t.Error(x)
				}
			}
		}
		if Contains(bad, bad.A) || Contains(bad, api.Addr{V6: bad.A.V6}) {
			t.Error(bad)
		}
	}
}

// P2.3

func TestChild(t *testing.T) {
	ten := four(10, 0, 0, 0, 8)
	for v, want := range map[int]string{0: "0", 1: "1", 2: "0", 3: "1", -1: "1", -2: "0", math.MinInt: "0", math.MaxInt: "1"} {
		for _, p := range append(sane(), ten) {
			x, ok := Child(p, v)
			if p.N == width(p.A.V6) {
				if ok || x != (api.Prefix{}) {
					t.Error("there is none", p, v, x, ok)
				}
			} else if !ok || x != made(digits(p.A)[:p.N]+want, p.A.V6) {
				t.Error(p, v, x, ok)
			}
		}
	}
	if x, ok := Child(ten, 1); !ok || x != four(10, 128, 0, 0, 9) {
		t.Error(x, ok)
	}
}

func TestParentAndSibling(t *testing.T) {
	other := map[byte]string{'0': "1", '1': "0"}
	for _, p := range sane() {
		up, okUp := Parent(p)
		side, okSide := Sibling(p)
		if p.N == 0 {
			if okUp || okSide || up != (api.Prefix{}) || side != (api.Prefix{}) {
				t.Error("there is none", p, up, side)
			}
			continue
		}
		first := digits(p.A)[:p.N-1]
		if !okUp || up != made(first, p.A.V6) {
			t.Error("Parent", p, up, okUp)
		}
		if !okSide || side != made(first+other[digits(p.A)[p.N-1]], p.A.V6) {
			t.Error("Sibling", p, side, okSide)
		}
	}
	if x, ok := Sibling(four(10, 0, 0, 0, 8)); !ok || x != four(11, 0, 0, 0, 8) {
		t.Error(x, ok)
	}
	if x, ok := Parent(four(11, 0, 0, 0, 8)); !ok || x != four(10, 0, 0, 0, 7) {
		t.Error(x, ok)
	}
}

func TestJoin(t *testing.T) {
	if x, ok := Join(four(10, 1, 0, 0, 16), four(10, 3, 0, 0, 24)); !ok || x != four(10, 0, 0, 0, 14) {
		t.Error(x, ok)
	}
	l := sane()
	for _, p := range l {
		for _, q := range l {
			x, ok := Join(p, q)
			if p.A.V6 != q.A.V6 {
				if ok || x != (api.Prefix{}) {
					t.Error("there is none", p, q, x, ok)
				}
				continue
			}
			v, w, n := digits(p.A)[:p.N], digits(q.A)[:q.N], 0
			for n < len(v) && n < len(w) && v[n] == w[n] {
				n++
			}
			if !ok || x != made(v[:n], p.A.V6) {
				t.Error(p, q, x, ok)
			}
		}
	}
}

func TestNoneOfWhatIsNotSane(t *testing.T) {
	for _, bad := range wrong {
		for _, v := range []int{0, 1} {
			if x, ok := Child(bad, v); ok || x != (api.Prefix{}) {
				t.Error("Child", bad, x, ok)
			}
		}
		if x, ok := Parent(bad); ok || x != (api.Prefix{}) {
			t.Error("Parent", bad, x, ok)
		}
		if x, ok := Sibling(bad); ok || x != (api.Prefix{}) {
			t.Error("Sibling", bad, x, ok)
		}
		good := api.Prefix{A: api.Addr{V6: bad.A.V6}}
		for _, pair := range [][2]api.Prefix{{good, bad}, {bad, good}, {bad, bad}} {
			if x, ok := Join(pair[0], pair[1]); ok || x != (api.Prefix{}) {
				t.Error("Join", pair, x, ok)
			}
		}
	}
}

// P2.4

func TestCompare(t *testing.T) {
	l := append(samples(), wrong...)
	for _, p := range l {
		for _, q := range l {
			want := 0
			switch {
			case p.A.V6 != q.A.V6 && q.A.V6:
				want = -1
			case p.A.V6 != q.A.V6:
				want = 1
			case there(p.A) != there(q.A):
				want = strings.Compare(there(p.A), there(q.A))
			default:
				want = cmp.Compare(p.N, q.N)
			}
			if c := Compare(p, q); c != want {
				t.Error(p, q, c)
			}
		}
	}
}

func TestExamplesOfOrder(t *testing.T) {
	up := []api.Prefix{
		{N: math.MinInt},
		{N: -1},
		four(0, 0, 0, 0, 0),
		four(0, 0, 0, 0, 32),
		{N: math.MaxInt},
		four(10, 0, 0, 0, 8),
		four(10, 0, 0, 0, 9),
		four(10, 0, 0, 1, 0),
		four(255, 255, 255, 255, 32),
		{A: api.Addr{V6: true}},
		{A: api.Addr{V6: true}, N: 128},
		{A: api.Addr{Lo: 1, V6: true}, N: 1},
	}
	for i, p := range up {
		for j, q := range up {
			if c := Compare(p, q); c != cmp.Compare(i, j) {
				t.Error(p, q, c)
			}
		}
	}
}

func TestEnds(t *testing.T) {
	if a, b := Ends(four(10, 0, 0, 0, 8)); a != four(10, 0, 0, 0, 0).A || b != four(10, 255, 255, 255, 0).A {
		t.Error(a, b)
	}
	for _, p := range append(samples(), wrong...) {
		first := digits(p.A)[:bring(p.N, p.A.V6)]
		if a, b := Ends(p); a != address(first, "0", p.A.V6) || b != address(first, "1", p.A.V6) {
			t.Error(p, a, b)
		}
	}
}

// P2.5

func TestOneCoversTheOtherOneOrTheyAreApart(t *testing.T) {
	l := sane()
	for _, p := range l {
		for _, q := range l {
			if n := Covers(p, q) || Covers(q, p); n == Apart(p, q) {
				t.Error(p, q)
			}
			if p != q && Covers(p, q) && Covers(q, p) {
				t.Error("both", p, q)
			}
		}
	}
}

func TestAChildsParentIsIt(t *testing.T) {
	for _, p := range sane() {
		for v := range 2 {
			x, ok := Child(p, v)
			if !ok {
				continue
			}
			side, _ := Sibling(x)
			other, _ := Child(p, 1-v)
			if up, ok := Parent(x); !ok || up != p || side != other {
				t.Error(p, v, x, up, side)
			}
			if j, ok := Join(x, other); !ok || j != p || !Inside(p, x) || !Apart(x, other) {
				t.Error(p, v, j)
			}
		}
	}
}

func TestWhatLiesBetweenTheEndsIsContained(t *testing.T) {
	for _, p := range sane() {
		low, high := Ends(p)
		l := append(addresses(), low, high)
		if x, ok := addr.Next(high); ok {
			l = append(l, x)
		}
		if x, ok := addr.Next(low); ok {
			l = append(l, x)
		}
		for _, a := range l {
			between := addr.Compare(low, a) <= 0 && addr.Compare(a, high) <= 0
			if Contains(p, a) != between {
				t.Error(p, a, between)
			}
		}
	}
}
