package trie

import (
	"fmt"
	"maps"
	"math"
	"slices"
	"strings"
	"testing"

	"kedge/api"
	"kedge/onpaper"
	"kedge/text"
	"kedge/written"
)

// The tests hold the package against prefixes written out by hand, and against a model: a map of what is there, whose keys are held against each other as digits written out as text, straight from the fields of an address.

const all = math.MaxUint64

// model is what is there, and the greatest number of nodes that there ever was.
type model struct {
	there map[api.Prefix]int
	slots int
}

func newModel() *model { return &model{there: map[api.Prefix]int{}, slots: 2} }

func (m *model) nodes() int {
	set := map[string]bool{"4:": true, "6:": true}
	for p := range m.there {
		for k := onpaper.Key(p); !set[k]; k = k[:len(k)-1] {
			set[k] = true
		}
	}
	return len(set)
}

func (m *model) put(p api.Prefix, v int) api.Errno {
	if !onpaper.MayBe(p) {
		return api.ErrBadPrefix
	}
	m.there[p] = v
	m.slots = max(m.slots, m.nodes())
	return api.OK
}

func (m *model) del(p api.Prefix) api.Errno {
	if !onpaper.MayBe(p) {
		return api.ErrBadPrefix
	}
	if _, ok := m.there[p]; !ok {
		return api.ErrAbsent
	}
	delete(m.there, p)
	return api.OK
}

// those are the pairs that are wanted, in order (so the shortest first, of those that cover one).
func (m *model) those(want func(q api.Prefix) bool) []Pair {
	var l []Pair
	for q, v := range m.there {
		if want(q) {
			l = append(l, Pair{P: q, V: v})
		}
	}
	slices.SortFunc(l, func(x, y Pair) int { return onpaper.Compare(x.P, y.P) })
	return l
}

func (m *model) above(p api.Prefix) []Pair {
	return m.those(func(q api.Prefix) bool { return onpaper.Covers(q, p) })
}

func (m *model) under(p api.Prefix) []Pair {
	return m.those(func(q api.Prefix) bool { return onpaper.Covers(p, q) })
}

func (m *model) inside(p api.Prefix) bool {
	l := m.under(p)
	return slices.ContainsFunc(l, func(x Pair) bool { return x.P != p })
}

func (m *model) longest(a api.Addr) (Pair, bool) {
	l := m.those(func(q api.Prefix) bool { return onpaper.Contains(q, a) })
	if len(l) == 0 {
		return Pair{}, false
	}
	return l[len(l)-1], true
}

// wantSizes: Len, Nodes and Slots are these.
func wantSizes(t *testing.T, x *Trie, n, nodes, slots int) {
	t.Helper()
	if x.Len() != n || x.Nodes() != nodes || x.Slots() != slots {
		t.Errorf("Len, Nodes, Slots = %d, %d, %d, not %d, %d, %d", x.Len(), x.Nodes(), x.Slots(), n, nodes, slots)
	}
}

// wantPrefix: what is told of p is what the model tells.
func wantPrefix(t *testing.T, x *Trie, m *model, p api.Prefix) {
	t.Helper()
	want, there := m.there[p]
	if v, ok := x.Get(p); v != want || ok != there {
		t.Errorf("Get(%v) = %d, %v, not %d, %v", p, v, ok, want, there)
	}
	if l := x.Above(p); !slices.Equal(l, m.above(p)) {
		t.Errorf("Above(%v) = %v, not %v", p, l, m.above(p))
	}
	if l := x.Under(p); !slices.Equal(l, m.under(p)) {
		t.Errorf("Under(%v) = %v, not %v", p, l, m.under(p))
	}
	if in := x.Inside(p); in != m.inside(p) {
		t.Errorf("Inside(%v) = %v", p, in)
	}
}

// wantSame: whatever is asked of these prefixes and addresses, it is told as the model tells it.
func wantSame(t *testing.T, x *Trie, m *model, prefixes []api.Prefix, addrs []api.Addr) {
	t.Helper()
	wantSizes(t, x, len(m.there), m.nodes(), m.slots)
	for _, p := range prefixes {
		wantPrefix(t, x, m, p)
	}
	for _, a := range addrs {
		want, there := m.longest(a)
		if l, ok := x.Longest(a); l != want || ok != there {
			t.Errorf("Longest(%v) = %v, %v, not %v, %v", a, l, ok, want, there)
		}
	}
}

// filled is one with these prefixes, each with its place in the list as its number.
func filled(t *testing.T, l ...string) *Trie {
	t.Helper()
	x := New()
	for k, s := range l {
		if e := x.Put(written.Prefix(s), k); e != api.OK {
			t.Fatal(s, e)
		}
	}
	return x
}

// show tells pairs as they are written, each with its number.
func show(l []Pair) string {
	var parts []string
	for _, x := range l {
		parts = append(parts, fmt.Sprint(text.Print(x.P), "=", x.V))
	}
	return strings.Join(parts, " ")
}

// samples are prefixes that may be, of both kinds, of every length, many of them beside, above and below others; none of them twice.
func samples() []api.Prefix {
	var l []api.Prefix
	was := map[api.Prefix]bool{}
	for _, w := range [][2]uint64{{0, 0}, {all, all}, {0xC1A3957B0D2F4E68, 0x9D5B7F31E2C48A61}, {0xC1A3957B0D2F4E68, 0}, {0x0A01020300000000, 1}, {0x0A01020400000000, 1}} {
		for _, v6 := range []bool{false, true} {
			for n := 0; n <= onpaper.Width(v6); n++ {
				if p := onpaper.Cut(w[0], w[1], n, v6); !was[p] {
					was[p] = true
					l = append(l, p)
				}
			}
		}
	}
	return l
}

// addresses are of both kinds, some of them with digits that a short one does not have.
func addresses() []api.Addr {
	var l []api.Addr
	for _, hi := range []uint64{0, 1, 1 << 31, 1 << 32, 1 << 63, 0xC1A3957B0D2F4E68, 0xC1A3957B << 32, 0x0A010203 << 32, 0x0A01020300000001, 0x0A010204 << 32, all} {
		for _, lo := range []uint64{0, 1, 1 << 63, 0x9D5B7F31E2C48A61, all} {
			l = append(l, api.Addr{Hi: hi, Lo: lo}, api.Addr{Hi: hi, Lo: lo, V6: true})
		}
	}
	return l
}

// numbers are any that a prefix may have.
var numbers = []int{0, 1, -1, 2, 65535, math.MinInt, math.MaxInt}

// P5.1

func TestNew(t *testing.T) {
	wantSame(t, New(), newModel(), append(samples(), onpaper.Wrong()...), addresses())
}

func TestPut(t *testing.T) {
	x, m := New(), newModel()
	for k, p := range samples() {
		v := numbers[k%len(numbers)]
		if e := x.Put(p, v); e != api.OK {
			t.Errorf("Put(%v) = %d", p, e)
		}
		m.put(p, v)
		if got, ok := x.Get(p); got != v || !ok {
			t.Errorf("Get(%v) = %d, %v, not %d, true", p, got, ok, v)
		}
	}
	wantSame(t, x, m, append(samples(), onpaper.Wrong()...), addresses())
}

func TestPutOfEachAlone(t *testing.T) {
	for _, p := range samples() {
		x, m := New(), newModel()
		if e := x.Put(p, 7); e != api.OK {
			t.Errorf("Put(%v) = %d", p, e)
		}
		m.put(p, 7)
		wantSame(t, x, m, []api.Prefix{p, {}, {A: api.Addr{V6: true}}, onpaper.Cut(p.A.Hi, p.A.Lo, p.N/2, p.A.V6), onpaper.Cut(p.A.Hi, p.A.Lo, onpaper.Width(p.A.V6), p.A.V6)}, []api.Addr{p.A})
	}
}

func TestPutInPlace(t *testing.T) {
	for _, p := range samples() {
		x := filled(t, "0.0.0.0/1", "::/1")
		x.Put(p, 5)
		n, nodes, slots := x.Len(), x.Nodes(), x.Slots()
		for _, v := range numbers {
			if e := x.Put(p, v); e != api.OK {
				t.Errorf("Put(%v, %d) = %d", p, v, e)
			}
			if got, ok := x.Get(p); got != v || !ok {
				t.Errorf("Get(%v) = %d, %v, not %d, true", p, got, ok, v)
			}
			wantSizes(t, x, n, nodes, slots)
		}
	}
}

func TestDel(t *testing.T) {
	x, m := New(), newModel()
	for k, p := range samples() {
		x.Put(p, k)
		m.put(p, k)
	}
	for k, p := range samples() {
		if k%3 == 1 {
			continue
		}
		if e := x.Del(p); e != api.OK {
			t.Errorf("Del(%v) = %d", p, e)
		}
		m.del(p)
		if v, ok := x.Get(p); v != 0 || ok {
			t.Errorf("Get(%v) = %d, %v", p, v, ok)
		}
	}
	wantSame(t, x, m, append(samples(), onpaper.Wrong()...), addresses())
}

func TestDelAndPutAgain(t *testing.T) {
	x := filled(t, "10.0.0.0/8", "10.1.0.0/16")
	p := written.Prefix("10.1.0.0/16")
	x.Del(p)
	if _, ok := x.Get(p); ok {
		t.Error("what was taken out is there")
	}
	if e := x.Put(p, 9); e != api.OK {
		t.Error(e)
	}
	if v, ok := x.Get(p); v != 9 || !ok {
		t.Error(v, ok)
	}
}

func TestDelOfWhatIsNotThere(t *testing.T) {
	there := []string{"10.0.0.0/8", "10.1.2.0/24", "2001:db8::/32", "2001:db8::1/128"}
	x, m := filled(t, there...), newModel()
	for k, s := range there {
		m.put(written.Prefix(s), k)
	}
	for _, s := range []string{ // those that have a node, and those that have none
		"0.0.0.0/0", "::/0", "10.0.0.0/7", "10.0.0.0/9", "10.1.0.0/16", "10.1.2.0/25", "11.0.0.0/8", "2001:db8::/31", "2001:db8::/128", "32.1.13.184/32",
	} {
		if e := x.Del(written.Prefix(s)); e != api.ErrAbsent {
			t.Errorf("Del(%s) = %d", s, e)
		}
	}
	wantSame(t, x, m, samples(), addresses())
	for _, s := range there {
		p := written.Prefix(s)
		if e := x.Del(p); e != api.OK || m.del(p) != api.OK {
			t.Errorf("Del(%s) = %d", s, e)
		}
		if e := x.Del(p); e != api.ErrAbsent {
			t.Errorf("Del(%s) = %d for the second time", s, e)
		}
	}
	wantSame(t, x, m, samples(), addresses())
}

func TestErrorsChangeNothing(t *testing.T) {
	there := []string{"10.0.0.0/8", "10.1.2.0/24", "2001:db8::/32"}
	x, m := filled(t, there...), newModel()
	for k, s := range there {
		m.put(written.Prefix(s), k)
	}
	for _, p := range onpaper.Wrong() {
		x.Put(p, 1)
		x.Del(p)
	}
	for _, s := range []string{"0.0.0.0/0", "10.0.0.0/7", "10.1.0.0/16", "10.1.2.0/25", "12.0.0.0/8", "::/0", "2001:db8::/33"} {
		x.Del(written.Prefix(s))
	}
	wantSame(t, x, m, append(samples(), onpaper.Wrong()...), addresses())
}

func TestPrefixesThatMayNotBe(t *testing.T) {
	full := New()
	for k, p := range samples() {
		full.Put(p, k)
	}
	for _, x := range []*Trie{New(), full} {
		for _, p := range onpaper.Wrong() {
			if e := x.Put(p, 1); e != api.ErrBadPrefix {
				t.Errorf("Put(%v) = %d", p, e)
			}
			if e := x.Del(p); e != api.ErrBadPrefix { // ahead of ErrAbsent: it is not there either
				t.Errorf("Del(%v) = %d", p, e)
			}
			if v, ok := x.Get(p); v != 0 || ok {
				t.Errorf("Get(%v) = %d, %v", p, v, ok)
			}
			if l := x.Above(p); len(l) != 0 {
				t.Errorf("Above(%v) = %v", p, l)
			}
			if l := x.Under(p); len(l) != 0 {
				t.Errorf("Under(%v) = %v", p, l)
			}
			if x.Inside(p) {
				t.Errorf("Inside(%v)", p)
			}
		}
	}
}

func TestNoDigits(t *testing.T) {
	short, long := written.Prefix("0.0.0.0/0"), written.Prefix("::/0")
	x := New()
	if x.Put(short, 4) != api.OK {
		t.Error("Put")
	}
	wantSizes(t, x, 1, 2, 2)
	if _, ok := x.Get(long); ok || x.Del(long) != api.ErrAbsent {
		t.Error("one kind for the other one")
	}
	if x.Put(long, 6) != api.OK {
		t.Error("Put")
	}
	wantSizes(t, x, 2, 2, 2)
	if v, ok := x.Get(short); v != 4 || !ok {
		t.Error(v, ok)
	}
	if v, ok := x.Get(long); v != 6 || !ok {
		t.Error(v, ok)
	}
	if x.Del(short) != api.OK || x.Del(short) != api.ErrAbsent {
		t.Error("Del")
	}
	wantSizes(t, x, 1, 2, 2)
	if _, ok := x.Get(short); ok {
		t.Error("it is there")
	}
	if v, ok := x.Get(long); v != 6 || !ok {
		t.Error(v, ok)
	}
}

func TestAllDigits(t *testing.T) {
	for _, c := range []struct {
		width int
		l     []string
	}{
		{32, []string{"10.0.0.0/32", "10.0.0.1/32", "0.0.0.0/32", "255.255.255.255/32"}},
		{128, []string{"::/128", "::1/128", "ffff:ffff:ffff:ffff:ffff:ffff:ffff:ffff/128", "2001:db8::1/128"}},
	} {
		x := filled(t, c.l...)
		for k, s := range c.l {
			p := written.Prefix(s)
			if v, ok := x.Get(p); v != k || !ok || p.N != c.width {
				t.Errorf("Get(%s) = %d, %v", s, v, ok)
			}
			if l, ok := x.Longest(p.A); l != (Pair{p, k}) || !ok {
				t.Errorf("Longest(%s) = %v, %v", s, l, ok)
			}
			if l := x.Under(p); !slices.Equal(l, []Pair{{p, k}}) || x.Inside(p) {
				t.Errorf("Under(%s) = %v", s, l)
			}
			if e := x.Del(p); e != api.OK {
				t.Errorf("Del(%s) = %d", s, e)
			}
		}
		if x.Nodes() != 2 {
			t.Error(x.Nodes())
		}
	}
}

// Of both kinds there are prefixes with the same digits.
func TestKindsAreApart(t *testing.T) {
	x := filled(t, "32.1.0.0/16", "2001::/17", "0.0.0.0/3")
	if _, ok := x.Get(written.Prefix("2001::/16")); ok {
		t.Error("2001::/16 is there")
	}
	if _, ok := x.Get(written.Prefix("32.1.0.0/17")); ok {
		t.Error("32.1.0.0/17 is there")
	}
	if l, ok := x.Longest(written.Addr("2001:8000::")); ok {
		t.Error(l)
	}
	if l, ok := x.Longest(written.Addr("32.1.0.0")); l.V != 0 || !ok {
		t.Error(l, ok)
	}
	if s := show(x.Above(written.Prefix("2001::/64"))); s != "2001::/17=1" {
		t.Error(s)
	}
	if s := show(x.Under(written.Prefix("0.0.0.0/0"))); s != "0.0.0.0/3=2 32.1.0.0/16=0" {
		t.Error(s)
	}
	if x.Inside(written.Prefix("2001::/17")) || x.Inside(written.Prefix("32.1.0.0/16")) {
		t.Error("Inside")
	}
	if x.Del(written.Prefix("2001::/16")) != api.ErrAbsent || x.Del(written.Prefix("32.1.0.0/17")) != api.ErrAbsent {
		t.Error("Del")
	}
}

// P5.2

func TestLongest(t *testing.T) {
	l := []string{"10.0.0.0/8", "10.1.0.0/16", "10.1.2.0/24", "10.1.2.3/32", "2001:db8::/32", "2001:db8::/64", "2001:db8::1/128"}
	x := filled(t, l...)
	for s, want := range map[string]int{
		"10.1.2.3": 3, "10.1.2.2": 2, "10.1.3.3": 1, "10.2.0.0": 0, "10.255.255.255": 0, "11.0.0.0": -1, "9.255.255.255": -1, "0.0.0.0": -1,
		"2001:db8::1": 6, "2001:db8::2": 5, "2001:db8:0:1::1": 4, "2001:db9::": -1, "::": -1, "::1": -1,
	} {
		wantPair := Pair{}
		if want >= 0 {
			wantPair = Pair{written.Prefix(l[want]), want}
		}
		if got, ok := x.Longest(written.Addr(s)); got != wantPair || ok != (want >= 0) {
			t.Errorf("Longest(%s) = %v, %v, not %v", s, got, ok, wantPair)
		}
	}
	x.Put(written.Prefix("0.0.0.0/0"), 77)
	if got, ok := x.Longest(written.Addr("11.0.0.0")); got != (Pair{api.Prefix{}, 77}) || !ok {
		t.Error(got, ok)
	}
	x.Del(written.Prefix("10.1.2.3/32"))
	if got, ok := x.Longest(written.Addr("10.1.2.3")); got.V != 2 || !ok {
		t.Error(got, ok)
	}
}

func TestLongestOfTheOtherKindAlone(t *testing.T) {
	x := filled(t, "0.0.0.0/0", "0.0.0.0/1", "0.0.0.0/32")
	if l, ok := x.Longest(written.Addr("::")); l != (Pair{}) || ok {
		t.Error(l, ok)
	}
	x = filled(t, "::/0", "::/32", "::/128")
	if l, ok := x.Longest(written.Addr("0.0.0.0")); l != (Pair{}) || ok {
		t.Error(l, ok)
	}
}

// A route's number may be 0: that there is one is told by true alone.
func TestLongestWithNumberZero(t *testing.T) {
	x := filled(t, "0.0.0.0/0")
	if l, ok := x.Longest(api.Addr{}); l != (Pair{}) || !ok {
		t.Error(l, ok)
	}
}

func TestLongestOfDigitsThatAreNone(t *testing.T) {
	x := filled(t, "10.1.2.3/32", "10.0.0.0/8")
	for _, a := range []api.Addr{{Hi: 0x0A01020300000001}, {Hi: 0x0A010203FFFFFFFF, Lo: all}, {Hi: 0x0A010203 << 32, Lo: 1}} {
		if l, ok := x.Longest(a); l != (Pair{written.Prefix("10.1.2.3/32"), 0}) || !ok {
			t.Errorf("Longest(%v) = %v, %v", a, l, ok)
		}
	}
	if l, ok := x.Longest(api.Addr{Hi: 0x0A010204FFFFFFFF, Lo: all}); l != (Pair{written.Prefix("10.0.0.0/8"), 1}) || !ok {
		t.Error(l, ok)
	}
}

func TestAbove(t *testing.T) {
	x := filled(t, "10.1.2.0/24", "0.0.0.0/0", "10.1.0.0/16", "11.0.0.0/8", "10.0.0.0/8", "::/0", "2001:db8::/32", "2001:db8::/33")
	for s, want := range map[string]string{
		"10.1.2.128/25":   "0.0.0.0/0=1 10.0.0.0/8=4 10.1.0.0/16=2 10.1.2.0/24=0",
		"10.1.2.3/32":     "0.0.0.0/0=1 10.0.0.0/8=4 10.1.0.0/16=2 10.1.2.0/24=0",
		"10.1.2.0/24":     "0.0.0.0/0=1 10.0.0.0/8=4 10.1.0.0/16=2 10.1.2.0/24=0",
		"10.1.2.0/23":     "0.0.0.0/0=1 10.0.0.0/8=4 10.1.0.0/16=2",
		"10.1.3.0/24":     "0.0.0.0/0=1 10.0.0.0/8=4 10.1.0.0/16=2",
		"10.0.0.0/8":      "0.0.0.0/0=1 10.0.0.0/8=4",
		"10.0.0.0/7":      "0.0.0.0/0=1",
		"0.0.0.0/0":       "0.0.0.0/0=1",
		"::/0":            "::/0=5",
		"2001:db8::1/128": "::/0=5 2001:db8::/32=6 2001:db8::/33=7",
		"2001:db9::/32":   "::/0=5",
	} {
		if got := show(x.Above(written.Prefix(s))); got != want {
			t.Errorf("Above(%s) = %s, not %s", s, got, want)
		}
	}
	x.Del(written.Prefix("0.0.0.0/0"))
	for _, s := range []string{"0.0.0.0/0", "10.0.0.0/7", "12.0.0.0/8", "255.255.255.255/32"} {
		if l := x.Above(written.Prefix(s)); len(l) != 0 {
			t.Errorf("Above(%s) = %v", s, l)
		}
	}
}

func TestUnder(t *testing.T) {
	x := filled(t, "11.0.0.0/8", "10.1.2.0/24", "10.0.0.0/32", "10.1.0.0/16", "10.0.0.0/8", "2001:db8:1::/48", "2001:db8::/48", "2001:db8::/32", "2001:db8::/128")
	for s, want := range map[string]string{
		"0.0.0.0/0":       "10.0.0.0/8=4 10.0.0.0/32=2 10.1.0.0/16=3 10.1.2.0/24=1 11.0.0.0/8=0",
		"10.0.0.0/7":      "10.0.0.0/8=4 10.0.0.0/32=2 10.1.0.0/16=3 10.1.2.0/24=1 11.0.0.0/8=0",
		"10.0.0.0/8":      "10.0.0.0/8=4 10.0.0.0/32=2 10.1.0.0/16=3 10.1.2.0/24=1",
		"10.0.0.0/9":      "10.0.0.0/32=2 10.1.0.0/16=3 10.1.2.0/24=1",
		"10.0.0.0/32":     "10.0.0.0/32=2",
		"10.1.0.0/16":     "10.1.0.0/16=3 10.1.2.0/24=1",
		"10.1.2.0/24":     "10.1.2.0/24=1",
		"10.1.2.0/25":     "",
		"10.128.0.0/9":    "",
		"12.0.0.0/8":      "",
		"::/0":            "2001:db8::/32=7 2001:db8::/48=6 2001:db8::/128=8 2001:db8:1::/48=5",
		"2001:db8::/47":   "2001:db8::/48=6 2001:db8::/128=8 2001:db8:1::/48=5",
		"2001:db8::/128":  "2001:db8::/128=8",
		"2001:db8::1/128": "",
		"8000::/1":        "",
	} {
		if got := show(x.Under(written.Prefix(s))); got != want {
			t.Errorf("Under(%s) = %s, not %s", s, got, want)
		}
	}
}

func TestInside(t *testing.T) {
	x := filled(t, "10.1.0.0/16", "10.1.2.0/24", "2001:db8::1/128")
	for s, want := range map[string]bool{
		"0.0.0.0/0": true, "10.0.0.0/8": true, "10.1.0.0/16": true, "10.1.0.0/17": true, "10.1.2.0/23": true,
		"10.1.2.0/24": false, "10.1.2.0/25": false, "10.1.128.0/17": false, "10.0.0.0/16": false, "12.0.0.0/8": false, "128.0.0.0/1": false,
		"::/0": true, "2001:db8::/32": true, "2001:db8::/127": true, "2001:db8::1/128": false, "2001:db8::/128": false,
	} {
		if got := x.Inside(written.Prefix(s)); got != want {
			t.Errorf("Inside(%s) = %v", s, got)
		}
	}
	x.Del(written.Prefix("10.1.2.0/24"))
	if x.Inside(written.Prefix("10.1.0.0/16")) || !x.Inside(written.Prefix("10.0.0.0/15")) {
		t.Error("10.1.0.0/16 is there alone")
	}
}

func TestInsideOfOneAlone(t *testing.T) {
	for _, p := range samples() {
		x := New()
		x.Put(p, 1)
		if x.Inside(p) {
			t.Errorf("%v lies inside of itself", p)
		}
		if p.N > 0 && !x.Inside(onpaper.Cut(p.A.Hi, p.A.Lo, p.N-1, p.A.V6)) {
			t.Errorf("%v does not lie inside of its parent", p)
		}
	}
}

// What was answered is not changed by what is done behind it.
func TestAnswersStay(t *testing.T) {
	x := filled(t, "10.0.0.0/8", "10.1.0.0/16")
	above, under := x.Above(written.Prefix("10.1.0.0/16")), x.Under(written.Prefix("10.0.0.0/8"))
	x.Put(written.Prefix("10.0.0.0/8"), 50)
	x.Del(written.Prefix("10.1.0.0/16"))
	x.Put(written.Prefix("10.0.0.0/9"), 51)
	x.Above(written.Prefix("10.1.0.0/16"))
	x.Under(written.Prefix("10.0.0.0/8"))
	if want := "10.0.0.0/8=0 10.1.0.0/16=1"; show(above) != want || show(under) != want {
		t.Error(show(above), show(under))
	}
}

// P5.3

func TestNodesThatAreShared(t *testing.T) {
	x := New()
	wantSizes(t, x, 0, 2, 2)
	for _, c := range []struct {
		s     string
		nodes int
	}{
		{"10.0.0.0/8", 10},
		{"10.1.0.0/16", 18},
		{"11.0.0.0/8", 19},
		{"0.0.0.0/4", 19},
		{"0.0.0.0/0", 19},
		{"128.0.0.0/1", 20},
		{"::/0", 20},
		{"2001:db8::/32", 52},
		{"2001:db9::/32", 53},
		{"2001:db8::/128", 149},
	} {
		x.Put(written.Prefix(c.s), 1)
		if x.Nodes() != c.nodes || x.Slots() != c.nodes {
			t.Errorf("behind %s: %d nodes, %d slots, not %d", c.s, x.Nodes(), x.Slots(), c.nodes)
		}
	}
	if x.Len() != 10 {
		t.Error(x.Len())
	}
}

func TestNodesThatGo(t *testing.T) {
	x := filled(t, "10.0.0.0/8", "10.1.0.0/16", "10.1.2.0/24", "10.1.3.0/24", "10.1.2.3/32")
	wantSizes(t, x, 5, 2+8+8+8+1+8, 35)
	for _, c := range []struct {
		s     string
		nodes int
	}{
		{"10.1.0.0/16", 35}, // others are below it
		{"10.1.2.0/24", 35},
		{"10.1.2.3/32", 26}, // down to the node that has another kid
		{"10.1.3.0/24", 10}, // down to the one that is there
		{"10.0.0.0/8", 2},
	} {
		if e := x.Del(written.Prefix(c.s)); e != api.OK || x.Nodes() != c.nodes || x.Slots() != 35 {
			t.Errorf("without %s: %d, %d nodes, %d slots, not %d nodes", c.s, e, x.Nodes(), x.Slots(), c.nodes)
		}
	}
	wantSizes(t, x, 0, 2, 35)
}

func TestSlots(t *testing.T) {
	x := filled(t, "10.0.0.0/8")
	for range 5 { // what goes and comes again needs no more
		x.Del(written.Prefix("10.0.0.0/8"))
		wantSizes(t, x, 0, 2, 10)
		x.Put(written.Prefix("11.0.0.0/8"), 1)
		wantSizes(t, x, 1, 10, 10)
		x.Del(written.Prefix("11.0.0.0/8"))
		x.Put(written.Prefix("2000::/3"), 1)
		wantSizes(t, x, 1, 5, 10)
		x.Put(written.Prefix("128.0.0.0/5"), 1)
		wantSizes(t, x, 2, 10, 10)
		x.Del(written.Prefix("2000::/3"))
		x.Del(written.Prefix("128.0.0.0/5"))
		x.Put(written.Prefix("10.0.0.0/8"), 1)
		wantSizes(t, x, 1, 10, 10)
	}
	x.Put(written.Prefix("11.0.0.0/8"), 1)
	wantSizes(t, x, 2, 11, 11)
	x.Del(written.Prefix("10.0.0.0/8"))
	wantSizes(t, x, 1, 10, 11)
	x.Put(written.Prefix("2001:db8::/32"), 1)
	wantSizes(t, x, 2, 42, 42)
}

// A node that comes again has nothing of the one that was in its place.
func TestNodesComeAgainWithNothing(t *testing.T) {
	x := filled(t, "10.1.0.0/16", "10.1.128.0/17", "10.1.0.0/17")
	for _, s := range []string{"10.1.0.0/16", "10.1.128.0/17", "10.1.0.0/17"} {
		x.Del(written.Prefix(s))
	}
	x.Put(written.Prefix("2001::/18"), 5)
	m := newModel()
	m.put(written.Prefix("2001::/18"), 5)
	m.slots = 20
	wantSame(t, x, m, append(samples(), written.Prefix("2001::/18"), written.Prefix("2001::/16"), written.Prefix("2001::/17")), append(addresses(), written.Addr("2001::")))
}

// Put and Del in any order, held against the model.
func TestAnyOrder(t *testing.T) {
	var pool []api.Prefix
	for _, p := range samples() {
		if p.N%3 == 0 || p.N > onpaper.Width(p.A.V6)-3 || p.N < 4 {
			pool = append(pool, p)
		}
	}
	pool = append(pool, onpaper.Wrong()[:6]...)
	some := addresses()
	for seed := range 6 {
		x, m, next := New(), newModel(), onpaper.Mixer(seed)
		for step := range 600 {
			p := pool[next.Below(len(pool))]
			v := numbers[next.Below(len(numbers))]
			del := next.Below(6) < 2+step/150 // more comes than goes at first, and less later
			if del {
				if e, want := x.Del(p), m.del(p); e != want {
					t.Fatalf("Del(%v) = %d, not %d", p, e, want)
				}
			} else if e, want := x.Put(p, v), m.put(p, v); e != want {
				t.Fatalf("Put(%v) = %d, not %d", p, e, want)
			}
			wantSizes(t, x, len(m.there), m.nodes(), m.slots)
			wantPrefix(t, x, m, p)
			if step%100 == 99 {
				wantSame(t, x, m, pool, some)
			}
			if t.Failed() {
				t.Fatal("seed", seed, "step", step)
			}
		}
	}
}

// Two of them have nothing in common.
func TestTwoOfThem(t *testing.T) {
	x, y := filled(t, "10.0.0.0/8"), filled(t, "10.0.0.0/16", "11.0.0.0/8")
	wantSizes(t, x, 1, 10, 10)
	wantSizes(t, y, 2, 19, 19)
	y.Del(written.Prefix("10.0.0.0/16"))
	if v, ok := x.Get(written.Prefix("10.0.0.0/8")); v != 0 || !ok {
		t.Error(v, ok)
	}
	if _, ok := y.Get(written.Prefix("10.0.0.0/8")); ok {
		t.Error("it is in the other one")
	}
}

// P5.4

func TestNotMadeByNew(t *testing.T) {
	for _, x := range []*Trie{nil, new(Trie)} {
		for _, p := range samples() {
			if e := x.Put(p, 1); e != api.ErrBadPrefix {
				t.Errorf("Put(%v) = %d", p, e)
			}
			if e := x.Del(p); e != api.ErrAbsent {
				t.Errorf("Del(%v) = %d", p, e)
			}
		}
		for _, p := range onpaper.Wrong() {
			if e := x.Put(p, 1); e != api.ErrBadPrefix {
				t.Errorf("Put(%v) = %d", p, e)
			}
			if e := x.Del(p); e != api.ErrBadPrefix {
				t.Errorf("Del(%v) = %d", p, e)
			}
		}
		empty := newModel()
		for _, p := range append(samples(), onpaper.Wrong()...) {
			wantPrefix(t, x, empty, p)
		}
		for _, a := range addresses() {
			if l, ok := x.Longest(a); l != (Pair{}) || ok {
				t.Errorf("Longest(%v) = %v, %v", a, l, ok)
			}
		}
		wantSizes(t, x, 0, 0, 0)
	}
}

// P5.5

func TestNothingIsLeft(t *testing.T) {
	for seed := range 4 {
		x, next := New(), onpaper.Mixer(seed)
		l := samples()
		for k, p := range l {
			x.Put(p, k)
		}
		slots := x.Nodes()
		for n := len(l); n > 0; n-- { // in any order
			k := next.Below(n)
			if e := x.Del(l[k]); e != api.OK {
				t.Fatalf("Del(%v) = %d", l[k], e)
			}
			l[k] = l[n-1]
		}
		wantSizes(t, x, 0, 2, slots)
		m := newModel()
		m.slots = slots
		wantSame(t, x, m, samples(), addresses())
	}
}

// What is put and taken out leaves what was there as it was.
func TestPutAndTakenOutLeavesNoNode(t *testing.T) {
	there := []string{"10.0.0.0/8", "10.1.2.0/24", "193.160.0.0/11", "2001:db8::/32", "::/0"}
	x, m := filled(t, there...), newModel()
	for k, s := range there {
		m.put(written.Prefix(s), k)
	}
	kept := maps.Clone(m.there)
	for _, p := range samples() {
		if _, ok := kept[p]; ok {
			continue
		}
		m.put(p, 3)
		m.del(p)
		if x.Put(p, 3) != api.OK || x.Del(p) != api.OK {
			t.Errorf("%v", p)
		}
		wantSizes(t, x, len(kept), m.nodes(), m.slots)
	}
	wantSame(t, x, m, samples(), addresses())
}

func TestNodesAreBounded(t *testing.T) {
	x, sum := New(), 0
	for _, p := range samples() {
		x.Put(p, 1)
		sum += p.N
		if x.Nodes() > 2+sum || x.Nodes() < 2 || x.Slots() < x.Nodes() {
			t.Fatalf("%d nodes, %d slots, the sum is %d", x.Nodes(), x.Slots(), sum)
		}
	}
	y := filled(t, "0.0.0.0/32", "128.0.0.0/32", "::/128", "8000::/128") // as many as may be
	if y.Nodes() != 2+32+32+128+128 {
		t.Error(y.Nodes())
	}
}

// As many as there may be routes, of all digits.
func TestMany(t *testing.T) {
	x, next := New(), onpaper.Mixer(1)
	var l []api.Prefix
	for k := range api.MaxRoutes {
		p := onpaper.Cut(uint64(k)<<52|uint64(next.Below(1<<20)), uint64(k), 128, true)
		l = append(l, p)
		if e := x.Put(p, k); e != api.OK {
			t.Fatal(e)
		}
	}
	if x.Len() != len(l) || x.Nodes() > 2+128*len(l) || x.Slots() != x.Nodes() {
		t.Error(x.Len(), x.Nodes(), x.Slots())
	}
	under := x.Under(api.Prefix{A: api.Addr{V6: true}})
	for k, p := range l { // they were put in order
		if under[k] != (Pair{p, k}) {
			t.Fatal(under[k], p, k)
		}
	}
	slots := x.Slots()
	for k := range l {
		if e := x.Del(l[(k*5)%len(l)]); e != api.OK {
			t.Fatal(e)
		}
	}
	wantSizes(t, x, 0, 2, slots)
}
