package rib

import (
	"fmt"
	"maps"
	"math"
	"slices"
	"testing"

	"kedge/api"
	"kedge/onpaper"
	"kedge/written"
)

// The tests hold the package against routes written out by hand, and against a model: a map of the routes that are there, gone over from end to end for each question, with prefixes held against each other as digits written out as text.

// model is the routes that are there, with what is known of them.
type model struct {
	there onpaper.Routes
	n, h  int
	slots int // the most nodes that there ever were
}

func newModel(n, h int) *model {
	return &model{there: onpaper.Routes{}, n: min(max(n, 0), 4096), h: min(max(h, 0), 65536), slots: 2}
}

func (m *model) nodes() int {
	set := map[string]bool{"4:": true, "6:": true}
	for p := range m.there {
		for k := onpaper.Key(p); !set[k]; k = k[:len(k)-1] {
			set[k] = true
		}
	}
	return len(set)
}

func hopsOf(there onpaper.Routes) []int {
	return slices.Compact(slices.Sorted(maps.Values(there)))
}

func (m *model) add(p api.Prefix, hop int) api.Errno {
	if !onpaper.MayBe(p) {
		return api.ErrBadPrefix
	}
	if hop < 0 || hop > 65535 {
		return api.ErrArg
	}
	then := maps.Clone(m.there)
	then[p] = hop
	if len(then) > m.n || len(hopsOf(then)) > m.h {
		return api.ErrFull
	}
	m.there = then
	m.slots = max(m.slots, m.nodes())
	return api.OK
}

func (m *model) withdraw(p api.Prefix) api.Errno {
	if !onpaper.MayBe(p) {
		return api.ErrBadPrefix
	}
	if _, ok := m.there[p]; !ok {
		return api.ErrAbsent
	}
	delete(m.there, p)
	return api.OK
}

// step is an Add of a prefix as it is written, or a Withdraw (where hop is gone), and what it tells.
type step struct {
	s    string
	hop  int
	want api.Errno
}

const gone = math.MinInt

// play does the steps, and holds what they tell against what is wanted of them.
func play(t *testing.T, r *Rib, l ...step) {
	t.Helper()
	for k, x := range l {
		p := written.Prefix(x.s)
		if x.hop == gone {
			if e := r.Withdraw(p); e != x.want {
				t.Errorf("step %d: Withdraw(%s) = %d, not %d", k, x.s, e, x.want)
			}
			continue
		}
		if e := r.Add(p, x.hop); e != x.want {
			t.Errorf("step %d: Add(%s, %d) = %d, not %d", k, x.s, x.hop, e, x.want)
		}
	}
}

// wantDump: these are the routes, as they are written, and these hops are used.
func wantDump(t *testing.T, r *Rib, dump, hops string) {
	t.Helper()
	if s := written.Show(r.Dump()...); s != dump {
		t.Errorf("Dump = %s, not %s", s, dump)
	}
	if s := fmt.Sprint(r.Hops()); s != hops {
		t.Errorf("Hops = %s, not %s", s, hops)
	}
}

func wantSize(t *testing.T, r *Rib, n, nodes, slots int) {
	t.Helper()
	if a, b, c := r.Size(); a != n || b != nodes || c != slots {
		t.Errorf("Size = %d, %d, %d, not %d, %d, %d", a, b, c, n, nodes, slots)
	}
}

// wantSame: whatever is asked, it is told as the model tells it.
func wantSame(t *testing.T, r *Rib, m *model, prefixes []api.Prefix, addrs []api.Addr) {
	t.Helper()
	if l := r.Dump(); !slices.Equal(l, m.there.All()) {
		t.Errorf("Dump = %v, not %v", l, m.there.All())
	}
	if l := r.Hops(); !slices.Equal(l, hopsOf(m.there)) {
		t.Errorf("Hops = %v, not %v", l, hopsOf(m.there))
	}
	wantSize(t, r, len(m.there), m.nodes(), m.slots)
	for _, p := range prefixes {
		want, there := m.there.Governs(p)
		if x, ok := r.Governs(p); x != want || ok != there {
			t.Errorf("Governs(%v) = %v, %v, not %v, %v", p, x, ok, want, there)
		}
		if in := r.Inside(p); in != m.there.Inside(p) {
			t.Errorf("Inside(%v) = %v", p, in)
		}
	}
	for _, a := range addrs {
		want, there := m.there.Longest(a)
		if x, ok := r.Longest(a); x != want || ok != there {
			t.Errorf("Longest(%v) = %v, %v, not %v, %v", a, x, ok, want, there)
		}
	}
}

// both is a Rib, and a model of it, that did the same.
func both(t *testing.T, n, h int, l ...api.Route) (*Rib, *model) {
	t.Helper()
	r, m := New(n, h), newModel(n, h)
	for _, x := range l {
		if e, want := r.Add(x.P, x.Hop), m.add(x.P, x.Hop); e != want {
			t.Errorf("Add(%v, %d) = %d, not %d", x.P, x.Hop, e, want)
		}
	}
	return r, m
}

// samples are prefixes that may be, of both kinds, many of them beside, above and below others, as others of the same digits of the other kind.
func samples() []api.Prefix {
	return written.Prefixes("0.0.0.0/0 0.0.0.0/1 128.0.0.0/1 10.0.0.0/7 10.0.0.0/8 11.0.0.0/8 10.0.0.0/9 10.1.0.0/16 10.1.2.0/24 10.1.2.3/32 10.1.2.2/32 32.1.0.0/16 32.1.13.184/32 255.255.255.255/32 0.0.0.0/32 " +
		"::/0 ::/1 8000::/1 2001:db8::/31 2001:db8::/32 2001:db9::/32 2001:db8::/33 2001:db8::/64 2001:db8:0:0:1::/80 2001:db8::1/128 2001:db8::/128 a00::/8 a01::/16 ffff:ffff:ffff:ffff:ffff:ffff:ffff:ffff/128 ::/128")
}

// wrongHops are below 0, and above MaxHop.
var wrongHops = []int{math.MinInt, -65536, -1, 65536, 65537, 1 << 32, math.MaxInt}

// hosts is the k-th of prefixes that are all apart, of both kinds by turns.
func hosts(k int) api.Prefix {
	if k%2 == 0 {
		return api.Prefix{A: api.Addr{Hi: uint64(k) << 40}, N: 24}
	}
	return api.Prefix{A: api.Addr{Hi: 0x20010DB800000000, Lo: uint64(k), V6: true}, N: 128}
}

// P6.1

func TestNew(t *testing.T) {
	for _, n := range []int{math.MinInt, -1, 0, 1, 3, 4096, 4097, math.MaxInt} {
		for _, h := range []int{math.MinInt, -1, 0, 1, 3, 65536, 65537, math.MaxInt} {
			r := New(n, h)
			wantSame(t, r, newModel(n, h), append(samples(), onpaper.Wrong()...), onpaper.Addrs())
			wantSize(t, r, 0, 2, 2)
		}
	}
}

// fill adds prefixes that are all apart, the k-th to hop(k), till one is refused; it tells how many were not.
func fill(t *testing.T, r *Rib, hop func(k int) int) int {
	t.Helper()
	for k := range 5000 {
		e := r.Add(hosts(k), hop(k))
		if e == api.ErrFull {
			return k
		}
		if e != api.OK {
			t.Fatal(k, e)
		}
	}
	return 5000
}

func one(k int) int   { return 9 }
func other(k int) int { return 65535 - 3*k }

func TestHowManyPrefixes(t *testing.T) {
	for _, c := range []struct{ n, want int }{
		{math.MinInt, 0}, {-1, 0}, {0, 0}, {1, 1}, {2, 2}, {7, 7}, {4095, 4095}, {4096, 4096}, {4097, 4096}, {65536, 4096}, {math.MaxInt, 4096},
	} {
		for _, hop := range []func(int) int{one, other} {
			r := New(c.n, 65536)
			if got := fill(t, r, hop); got != c.want {
				t.Errorf("New(%d, 65536) has room for %d prefixes, not %d", c.n, got, c.want)
			}
			if n, _, _ := r.Size(); n != c.want || len(r.Dump()) != c.want {
				t.Errorf("Size of New(%d, 65536) = %d, not %d", c.n, n, c.want)
			}
		}
	}
}

func TestHowManyHops(t *testing.T) {
	for _, c := range []struct{ h, want int }{
		{math.MinInt, 0}, {-1, 0}, {0, 0}, {1, 1}, {2, 2}, {7, 7}, {4095, 4095}, {4096, 4096}, {65536, 4096}, {65537, 4096}, {math.MaxInt, 4096},
	} {
		r := New(4096, c.h)
		if got := fill(t, r, other); got != c.want {
			t.Errorf("New(4096, %d) has room for %d unlike hops, not %d", c.h, got, c.want)
		}
		if l := r.Hops(); len(l) != c.want {
			t.Errorf("New(4096, %d) has %d hops, not %d", c.h, len(l), c.want)
		}
	}
	if got := fill(t, New(4096, 1), one); got != 4096 {
		t.Errorf("with one hop there is room for %d prefixes", got)
	}
}

// P6.2

func TestAdd(t *testing.T) {
	r, m := New(4096, 65536), newModel(4096, 65536)
	hops := []int{0, 1, 2, 65535, 65534, 1, 0}
	for k, p := range samples() {
		hop := hops[k%len(hops)]
		if e, want := r.Add(p, hop), m.add(p, hop); e != want || e != api.OK {
			t.Errorf("Add(%v, %d) = %d", p, hop, e)
		}
		wantSame(t, r, m, samples(), nil)
	}
	wantSame(t, r, m, append(samples(), onpaper.Wrong()...), onpaper.Addrs())
}

func TestAddInPlace(t *testing.T) {
	r := New(9, 9)
	play(t, r, step{"10.0.0.0/8", 1, api.OK}, step{"::/0", 2, api.OK}, step{"10.0.0.0/8", 65535, api.OK}, step{"::/0", 0, api.OK}, step{"::/0", 0, api.OK})
	wantDump(t, r, "10.0.0.0/8>65535 ::/0>0", "[0 65535]")
	wantSize(t, r, 2, 10, 10)
}

func TestAddOfPrefixThatMayNotBe(t *testing.T) {
	full, m := both(t, 2, 1, api.Route{P: written.Prefix("10.0.0.0/8"), Hop: 1}, api.Route{P: written.Prefix("::/0"), Hop: 1})
	for _, r := range []*Rib{full, New(9, 9), New(0, 0), New(-1, -1)} {
		for _, p := range onpaper.Wrong() {
			for _, hop := range append([]int{0, 1, 2, 65535}, wrongHops...) { // ahead of ErrArg, and of ErrFull
				if e := r.Add(p, hop); e != api.ErrBadPrefix {
					t.Errorf("Add(%v, %d) = %d", p, hop, e)
				}
			}
		}
	}
	wantSame(t, full, m, append(samples(), onpaper.Wrong()...), onpaper.Addrs())
}

func TestAddOfHopThatMayNotBe(t *testing.T) {
	full, m := both(t, 2, 1, api.Route{P: written.Prefix("10.0.0.0/8"), Hop: 1}, api.Route{P: written.Prefix("::/0"), Hop: 1})
	roomy := New(9, 9)
	for _, r := range []*Rib{full, roomy, New(0, 0), New(9, 0), New(0, 9)} {
		for _, hop := range wrongHops { // ahead of ErrFull
			for _, p := range samples() {
				if e := r.Add(p, hop); e != api.ErrArg {
					t.Errorf("Add(%v, %d) = %d", p, hop, e)
				}
			}
		}
	}
	wantSame(t, full, m, append(samples(), onpaper.Wrong()...), onpaper.Addrs())
	wantSame(t, roomy, newModel(9, 9), append(samples(), onpaper.Wrong()...), onpaper.Addrs())
}

func TestHopsAtTheirEnds(t *testing.T) {
	r := New(2, 2)
	play(t, r, step{"0.0.0.0/0", 0, api.OK}, step{"::/0", 65535, api.OK}, step{"::/0", 65536, api.ErrArg}, step{"0.0.0.0/0", -1, api.ErrArg})
	wantDump(t, r, "0.0.0.0/0>0 ::/0>65535", "[0 65535]")
}

func TestFullByPrefixes(t *testing.T) {
	r := New(2, 9)
	play(t, r,
		step{"10.0.0.0/8", 1, api.OK}, step{"2001:db8::/32", 1, api.OK},
		step{"11.0.0.0/8", 1, api.ErrFull}, step{"11.0.0.0/8", 2, api.ErrFull}, step{"::/0", 1, api.ErrFull}, step{"10.0.0.0/7", 0, api.ErrFull},
		step{"10.0.0.0/8", 5, api.OK}, step{"2001:db8::/32", 6, api.OK}, // these have room
		step{"11.0.0.0/8", 5, api.ErrFull})
	wantDump(t, r, "10.0.0.0/8>5 2001:db8::/32>6", "[5 6]")
}

func TestFullByHops(t *testing.T) {
	r := New(9, 2)
	play(t, r,
		step{"10.0.0.0/8", 1, api.OK}, step{"2001:db8::/32", 2, api.OK},
		step{"11.0.0.0/8", 3, api.ErrFull}, step{"::/0", 0, api.ErrFull},
		step{"11.0.0.0/8", 1, api.OK}, step{"::/0", 2, api.OK}, // hops that are used need no room
		step{"11.0.0.0/8", 3, api.ErrFull}, step{"::/0", 3, api.ErrFull}, step{"10.0.0.0/8", 3, api.ErrFull}, // of each of both hops there is one more use
		step{"11.0.0.0/8", 2, api.OK}, step{"10.0.0.0/8", 3, api.OK}) // but now there is none of hop 1
	wantDump(t, r, "10.0.0.0/8>3 11.0.0.0/8>2 ::/0>2 2001:db8::/32>2", "[2 3]")
}

func TestFullByBoth(t *testing.T) {
	r := New(2, 1)
	play(t, r,
		step{"10.0.0.0/8", 7, api.OK}, step{"10.0.0.0/16", 7, api.OK},
		step{"10.0.0.0/24", 7, api.ErrFull}, step{"10.0.0.0/24", 8, api.ErrFull},
		step{"10.0.0.0/8", 8, api.ErrFull}, step{"10.0.0.0/16", 8, api.ErrFull},
		step{"10.0.0.0/8", 7, api.OK}, step{"10.0.0.0/16", 7, api.OK})
	wantDump(t, r, "10.0.0.0/8>7 10.0.0.0/16>7", "[7]")
	wantSize(t, r, 2, 18, 18)
}

func TestNoRoom(t *testing.T) {
	for _, r := range []*Rib{New(0, 0), New(0, 9), New(9, 0), New(-1, 9), New(9, -1), New(math.MinInt, math.MinInt)} {
		for _, p := range samples() {
			for _, hop := range []int{0, 1, 65535} {
				if e := r.Add(p, hop); e != api.ErrFull {
					t.Errorf("Add(%v, %d) = %d", p, hop, e)
				}
			}
			if e := r.Withdraw(p); e != api.ErrAbsent {
				t.Errorf("Withdraw(%v) = %d", p, e)
			}
		}
		wantDump(t, r, "", "[]")
		wantSize(t, r, 0, 2, 2)
	}
}

// A replacement in a full table counts with hop in place of what the prefix had.
func TestReplacementInFullTable(t *testing.T) {
	for _, c := range []struct {
		name       string
		l          []step
		dump, hops string
	}{
		{"lets go the last use", []step{{"10.0.0.0/8", 1, api.OK}, {"::/0", 2, api.OK}, {"10.0.0.0/8", 3, api.OK}}, "10.0.0.0/8>3 ::/0>2", "[2 3]"},
		{"does not let go the last use", []step{{"10.0.0.0/8", 1, api.OK}, {"::/0", 1, api.OK}, {"10.0.0.0/8", 2, api.OK}, {"::/0", 3, api.OK}}, "10.0.0.0/8>2 ::/0>3", "[2 3]"},
		{"to the hop that it had, the last use", []step{{"10.0.0.0/8", 1, api.OK}, {"::/0", 2, api.OK}, {"10.0.0.0/8", 1, api.OK}, {"10.0.0.0/8", 1, api.OK}, {"::/0", 2, api.OK}}, "10.0.0.0/8>1 ::/0>2", "[1 2]"},
		{"to the hop that the other one has", []step{{"10.0.0.0/8", 1, api.OK}, {"::/0", 2, api.OK}, {"10.0.0.0/8", 2, api.OK}, {"10.0.0.0/8", 1, api.OK}}, "10.0.0.0/8>1 ::/0>2", "[1 2]"},
		{"to 0 and back", []step{{"10.0.0.0/8", 1, api.OK}, {"::/0", 2, api.OK}, {"::/0", 0, api.OK}, {"10.0.0.0/8", 2, api.OK}, {"::/0", 65535, api.OK}}, "10.0.0.0/8>2 ::/0>65535", "[2 65535]"},
	} {
		t.Run(c.name, func(t *testing.T) {
			r := New(2, 2)
			play(t, r, c.l...)
			wantDump(t, r, c.dump, c.hops)
			play(t, r, step{"11.0.0.0/8", 2, api.ErrFull})
		})
	}
}

// Of each hop it is counted how many routes go to it: as long as there is one, it is used.
func TestUsesOfHop(t *testing.T) {
	r := New(9, 1)
	play(t, r,
		step{"10.0.0.0/8", 4, api.OK}, step{"10.0.0.0/8", 4, api.OK}, step{"10.0.0.0/8", 4, api.OK}, // one use, not three
		step{"10.0.0.0/8", 5, api.OK},
		step{"11.0.0.0/8", 5, api.OK}, step{"::/0", 5, api.OK},
		step{"::/0", gone, api.OK}, step{"12.0.0.0/8", 4, api.ErrFull},
		step{"10.0.0.0/8", gone, api.OK}, step{"12.0.0.0/8", 4, api.ErrFull},
		step{"11.0.0.0/8", gone, api.OK}, step{"12.0.0.0/8", 4, api.OK}, step{"13.0.0.0/8", 5, api.ErrFull})
	wantDump(t, r, "12.0.0.0/8>4", "[4]")
}

func TestWithdraw(t *testing.T) {
	var l []api.Route
	for k, p := range samples() {
		l = append(l, api.Route{P: p, Hop: k % 4})
	}
	r, m := both(t, 4096, 4, l...)
	for k := range l {
		p := l[k*7%len(l)].P // 7 and their number have no divisor in common, so that each comes once
		if e, want := r.Withdraw(p), m.withdraw(p); e != want || e != api.OK {
			t.Errorf("Withdraw(%v) = %d", p, e)
		}
		if e := r.Withdraw(p); e != api.ErrAbsent {
			t.Errorf("Withdraw(%v) = %d for the second time", p, e)
		}
		wantSame(t, r, m, samples(), nil)
	}
	wantDump(t, r, "", "[]")
	wantSame(t, r, m, append(samples(), onpaper.Wrong()...), onpaper.Addrs())
}

func TestWithdrawOfWhatHasNoRoute(t *testing.T) {
	r, m := both(t, 9, 9, api.Route{P: written.Prefix("10.1.0.0/16"), Hop: 0}, api.Route{P: written.Prefix("2001:db8::/32"), Hop: 2})
	for _, s := range []string{"0.0.0.0/0", "::/0", "10.0.0.0/8", "10.1.0.0/17", "10.1.0.0/32", "11.0.0.0/8", "2001:db8::/31", "2001:db8::/33", "32.1.13.184/32"} {
		play(t, r, step{s, gone, api.ErrAbsent})
	}
	wantSame(t, r, m, append(samples(), onpaper.Wrong()...), onpaper.Addrs())
}

func TestWithdrawOfPrefixThatMayNotBe(t *testing.T) {
	r, m := both(t, 9, 9, api.Route{P: written.Prefix("10.0.0.0/8"), Hop: 1}, api.Route{P: written.Prefix("2001:db8::/32"), Hop: 2}, api.Route{P: written.Prefix("0.0.0.0/0"), Hop: 2})
	for _, r := range []*Rib{r, New(9, 9), New(0, 0)} {
		for _, p := range onpaper.Wrong() { // ahead of ErrAbsent: it has no route either
			if e := r.Withdraw(p); e != api.ErrBadPrefix {
				t.Errorf("Withdraw(%v) = %d", p, e)
			}
		}
	}
	wantSame(t, r, m, append(samples(), onpaper.Wrong()...), onpaper.Addrs())
}

func TestErrorsChangeNothing(t *testing.T) {
	r, m := both(t, 3, 2, api.Route{P: written.Prefix("10.0.0.0/8"), Hop: 1}, api.Route{P: written.Prefix("10.1.0.0/16"), Hop: 1}, api.Route{P: written.Prefix("2001:db8::/32"), Hop: 2})
	refuse := func(what string, e, want api.Errno) {
		t.Helper()
		if e != want {
			t.Errorf("%s: %d, not %d", what, e, want)
		}
	}
	for _, p := range onpaper.Wrong() {
		refuse("Add of a bad prefix", r.Add(p, 1), api.ErrBadPrefix)
		refuse("Withdraw of a bad prefix", r.Withdraw(p), api.ErrBadPrefix)
	}
	for _, p := range samples() {
		for _, hop := range wrongHops {
			refuse("Add of a bad hop", r.Add(p, hop), api.ErrArg)
		}
		if _, ok := m.there[p]; !ok {
			refuse("Add to a full table", r.Add(p, 1), api.ErrFull)
			refuse("Add to a full table", r.Add(p, 3), api.ErrFull)
			refuse("Withdraw of what has no route", r.Withdraw(p), api.ErrAbsent)
		}
	}
	refuse("a third hop", r.Add(written.Prefix("10.0.0.0/8"), 3), api.ErrFull)
	refuse("a third hop", r.Add(written.Prefix("10.1.0.0/16"), 3), api.ErrFull)
	wantSame(t, r, m, append(samples(), onpaper.Wrong()...), onpaper.Addrs())
	refuse("the last use of hop 2", r.Add(written.Prefix("2001:db8::/32"), 3), api.OK) // what was counted is as it was, too
	refuse("hop 2 is not used", r.Add(written.Prefix("10.0.0.0/8"), 2), api.ErrFull)
}

// P6.3

func TestLongest(t *testing.T) {
	r := New(99, 99)
	want := func(a, w string) {
		t.Helper()
		x, ok := r.Longest(written.Addr(a))
		if w == "" && (ok || x != (api.Route{})) || w != "" && (!ok || written.Show(x) != w) {
			t.Errorf("Longest(%s) = %v, %v, not %s", a, x, ok, w)
		}
	}
	want("10.1.2.3", "")
	want("::", "")
	play(t, r, step{"10.0.0.0/8", 1, api.OK})
	want("10.1.2.3", "10.0.0.0/8>1")
	want("10.255.255.255", "10.0.0.0/8>1")
	want("11.0.0.0", "")
	want("9.255.255.255", "")
	want("a00::", "") // the same digits, of the other kind alone
	play(t, r, step{"10.1.2.0/24", 0, api.OK}, step{"0.0.0.0/0", 2, api.OK}, step{"10.1.0.0/16", 3, api.OK}, step{"10.1.2.3/32", 4, api.OK})
	want("10.1.2.3", "10.1.2.3/32>4")
	want("10.1.2.2", "10.1.2.0/24>0")
	want("10.1.3.3", "10.1.0.0/16>3")
	want("10.2.2.3", "10.0.0.0/8>1")
	want("192.0.2.1", "0.0.0.0/0>2")
	want("2001:db8::1", "")
	play(t, r, step{"2001:db8::/32", 5, api.OK}, step{"2001:db8::/64", 6, api.OK})
	want("2001:db8::1", "2001:db8::/64>6")
	want("2001:db8:1::1", "2001:db8::/32>5")
	want("2001:db9::", "")
	want("32.1.13.184", "0.0.0.0/0>2")
	play(t, r, step{"2001:db8::/64", gone, api.OK}, step{"10.1.2.0/24", gone, api.OK})
	want("2001:db8::1", "2001:db8::/32>5")
	want("10.1.2.2", "10.1.0.0/16>3")
}

func TestGoverns(t *testing.T) {
	r := New(99, 99)
	want := func(p, w string) {
		t.Helper()
		x, ok := r.Governs(written.Prefix(p))
		if w == "" && (ok || x != (api.Route{})) || w != "" && (!ok || written.Show(x) != w) {
			t.Errorf("Governs(%s) = %v, %v, not %s", p, x, ok, w)
		}
	}
	want("10.0.0.0/8", "")
	want("::/0", "")
	play(t, r, step{"10.0.0.0/8", 1, api.OK})
	want("10.0.0.0/8", "10.0.0.0/8>1") // one covers itself
	want("10.0.0.0/9", "10.0.0.0/8>1")
	want("10.1.2.3/32", "10.0.0.0/8>1")
	want("10.0.0.0/7", "")
	want("0.0.0.0/0", "")
	want("11.0.0.0/8", "")
	want("a00::/8", "") // the same digits, of the other kind alone
	want("a00::/9", "")
	play(t, r, step{"10.1.0.0/16", 0, api.OK}, step{"0.0.0.0/0", 2, api.OK})
	want("10.1.0.0/16", "10.1.0.0/16>0")
	want("10.1.0.0/32", "10.1.0.0/16>0")
	want("10.0.0.0/15", "10.0.0.0/8>1")
	want("10.0.0.0/7", "0.0.0.0/0>2")
	want("0.0.0.0/0", "0.0.0.0/0>2")
	want("::/0", "")
	play(t, r, step{"2001:db8::/32", 5, api.OK}, step{"2001:db8::/64", 6, api.OK}, step{"2001:db8::1/128", 7, api.OK})
	want("2001:db8::1/128", "2001:db8::1/128>7")
	want("2001:db8::/128", "2001:db8::/64>6")
	want("2001:db8::/63", "2001:db8::/32>5")
	want("2001:db8::/31", "")
	want("32.1.13.184/32", "0.0.0.0/0>2")
	play(t, r, step{"2001:db8::/64", gone, api.OK}, step{"0.0.0.0/0", gone, api.OK})
	want("2001:db8::/128", "2001:db8::/32>5")
	want("10.0.0.0/7", "")
}

func TestInside(t *testing.T) {
	r := New(99, 99)
	want := func(p string, w bool) {
		t.Helper()
		if in := r.Inside(written.Prefix(p)); in != w {
			t.Errorf("Inside(%s) = %v", p, in)
		}
	}
	want("0.0.0.0/0", false)
	want("::/0", false)
	play(t, r, step{"10.1.0.0/16", 0, api.OK})
	want("0.0.0.0/0", true)
	want("10.0.0.0/8", true)
	want("10.0.0.0/15", true)
	want("10.1.0.0/16", false) // none is inside of itself
	want("10.1.0.0/17", false)
	want("11.0.0.0/8", false)
	want("::/0", false) // the other kind alone
	want("a00::/8", false)
	play(t, r, step{"10.1.2.3/32", 1, api.OK}, step{"2001:db8::1/128", 1, api.OK})
	want("10.1.0.0/16", true)
	want("10.1.2.2/31", true)
	want("10.1.2.3/32", false)
	want("::/0", true)
	want("2001:db8::/127", true)
	want("2001:db8::1/128", false)
	play(t, r, step{"10.1.2.3/32", gone, api.OK})
	want("10.1.0.0/16", false)
	want("10.0.0.0/8", true)
}

func TestPrefixesThatMayNotBe(t *testing.T) {
	var l []api.Route
	for _, p := range samples() {
		l = append(l, api.Route{P: p, Hop: 1})
	}
	full, _ := both(t, 4096, 1, l...)
	for _, r := range []*Rib{New(9, 9), full} {
		for _, p := range onpaper.Wrong() {
			if x, ok := r.Governs(p); ok || x != (api.Route{}) {
				t.Errorf("Governs(%v) = %v, %v", p, x, ok)
			}
			if r.Inside(p) {
				t.Errorf("Inside(%v)", p)
			}
		}
	}
}

// P6.4

func TestDump(t *testing.T) {
	r := New(99, 99)
	play(t, r,
		step{"2001:db8::/32", 3, api.OK}, step{"255.255.255.255/32", 4, api.OK}, step{"10.1.0.0/16", 0, api.OK}, step{"::/0", 5, api.OK},
		step{"10.0.0.0/16", 2, api.OK}, step{"10.0.0.0/8", 1, api.OK}, step{"0.0.0.0/0", 65535, api.OK}, step{"::/128", 4, api.OK},
		step{"2001:db8::/64", 2, api.OK}, step{"2001:db7::/32", 1, api.OK}, step{"0.0.0.0/32", 3, api.OK})
	wantDump(t, r, "0.0.0.0/0>65535 0.0.0.0/32>3 10.0.0.0/8>1 10.0.0.0/16>2 10.1.0.0/16>0 255.255.255.255/32>4 ::/0>5 ::/128>4 2001:db7::/32>1 2001:db8::/32>3 2001:db8::/64>2", "[0 1 2 3 4 5 65535]")
}

func TestDumpOfOneKindAlone(t *testing.T) {
	short, long := New(9, 9), New(9, 9)
	play(t, short, step{"11.0.0.0/8", 1, api.OK}, step{"10.0.0.0/8", 2, api.OK})
	play(t, long, step{"8000::/1", 1, api.OK}, step{"::/1", 1, api.OK})
	wantDump(t, short, "10.0.0.0/8>2 11.0.0.0/8>1", "[1 2]")
	wantDump(t, long, "::/1>1 8000::/1>1", "[1]")
}

// What was answered is not changed by what is done behind it.
func TestAnswersStay(t *testing.T) {
	r := New(9, 9)
	play(t, r, step{"10.0.0.0/8", 1, api.OK}, step{"11.0.0.0/8", 2, api.OK})
	dump, hops := r.Dump(), r.Hops()
	play(t, r, step{"10.0.0.0/8", 3, api.OK}, step{"11.0.0.0/8", gone, api.OK}, step{"::/0", 4, api.OK})
	if written.Show(dump...) != "10.0.0.0/8>1 11.0.0.0/8>2" || fmt.Sprint(hops) != "[1 2]" {
		t.Error(written.Show(dump...), hops)
	}
	dump, hops = r.Dump(), r.Hops()
	dump[0].Hop, hops[0] = 77, 77
	wantDump(t, r, "10.0.0.0/8>3 ::/0>4", "[3 4]")
}

func TestHops(t *testing.T) {
	r := New(4096, 65536)
	for k := range 600 { // many, so that no order of a map is rising by chance
		r.Add(hosts(k), 65535-(k*7919)%300)
	}
	var want []int
	for hop := 65535 - 299; hop <= 65535; hop++ {
		want = append(want, hop)
	}
	if l := r.Hops(); !slices.Equal(l, want) {
		t.Errorf("Hops = %v", l)
	}
	for k := range 600 {
		r.Withdraw(hosts(k))
	}
	if l := r.Hops(); len(l) != 0 {
		t.Errorf("Hops = %v", l)
	}
}

func TestSize(t *testing.T) {
	r := New(9, 9)
	wantSize(t, r, 0, 2, 2)
	for _, c := range []struct {
		step
		n, nodes, slots int
	}{
		{step{"0.0.0.0/0", 1, api.OK}, 1, 2, 2},
		{step{"::/0", 1, api.OK}, 2, 2, 2},
		{step{"10.0.0.0/8", 1, api.OK}, 3, 10, 10},
		{step{"10.0.0.0/8", 2, api.OK}, 3, 10, 10},
		{step{"11.0.0.0/8", 3, api.OK}, 4, 11, 11},
		{step{"2001:db8::/32", 4, api.OK}, 5, 43, 43},
		{step{"2001:db8::/33", 4, api.OK}, 6, 44, 44},
		{step{"2001:db8::/32", gone, api.OK}, 5, 44, 44},
		{step{"2001:db8::/33", gone, api.OK}, 4, 11, 44},
		{step{"2001:db8::/33", gone, api.ErrAbsent}, 4, 11, 44},
		{step{"10.0.0.0/8", gone, api.OK}, 3, 10, 44},
		{step{"10.0.0.0/8", 65536, api.ErrArg}, 3, 10, 44},
		{step{"10.0.0.0/16", 5, api.OK}, 4, 19, 44},
		{step{"0.0.0.0/0", gone, api.OK}, 3, 19, 44},
		{step{"::/0", gone, api.OK}, 2, 19, 44},
		{step{"11.0.0.0/8", gone, api.OK}, 1, 18, 44},
		{step{"10.0.0.0/16", gone, api.OK}, 0, 2, 44},
		{step{"::1/128", 5, api.OK}, 1, 130, 130},
	} {
		play(t, r, c.step)
		wantSize(t, r, c.n, c.nodes, c.slots)
	}
}

// P6.2 to P6.4, by steps of all kinds in any order.
func TestManySteps(t *testing.T) {
	m := onpaper.Mixer(6)
	prefixes, bad := samples(), onpaper.Wrong()
	for _, c := range []struct{ n, h int }{{0, 3}, {3, 0}, {1, 1}, {3, 2}, {2, 3}, {5, 3}, {5, 9}, {12, 4}, {30, 5}, {4096, 65536}} {
		r, want := New(c.n, c.h), newModel(c.n, c.h)
		for k := range 500 {
			p, hop := prefixes[m.Below(len(prefixes))], m.Below(6)
			if m.Below(20) == 0 {
				p = bad[m.Below(len(bad))]
			}
			if m.Below(20) == 0 {
				hop = wrongHops[m.Below(len(wrongHops))]
			}
			if m.Below(3) == 0 {
				if e, w := r.Withdraw(p), want.withdraw(p); e != w {
					t.Errorf("step %d: Withdraw(%v) = %d, not %d", k, p, e, w)
				}
			} else if e, w := r.Add(p, hop), want.add(p, hop); e != w {
				t.Errorf("step %d: Add(%v, %d) = %d, not %d", k, p, hop, e, w)
			}
			wantSame(t, r, want, []api.Prefix{p}, []api.Addr{p.A})
			if k%100 == 99 {
				wantSame(t, r, want, append(prefixes, bad...), onpaper.Addrs())
			}
			if t.Failed() {
				return
			}
		}
	}
}

// P6.5

func TestNotMadeByNew(t *testing.T) {
	for name, r := range map[string]*Rib{"nil": nil, "zero": {}} {
		t.Run(name, func(t *testing.T) {
			for range 2 {
				for _, p := range samples() {
					for _, hop := range []int{0, 1, 65535} {
						if e := r.Add(p, hop); e != api.ErrFull {
							t.Errorf("Add(%v, %d) = %d", p, hop, e)
						}
					}
					for _, hop := range wrongHops {
						if e := r.Add(p, hop); e != api.ErrArg {
							t.Errorf("Add(%v, %d) = %d", p, hop, e)
						}
					}
					if e := r.Withdraw(p); e != api.ErrAbsent {
						t.Errorf("Withdraw(%v) = %d", p, e)
					}
				}
				for _, p := range onpaper.Wrong() {
					if e := r.Add(p, -1); e != api.ErrBadPrefix {
						t.Errorf("Add(%v) = %d", p, e)
					}
					if e := r.Withdraw(p); e != api.ErrBadPrefix {
						t.Errorf("Withdraw(%v) = %d", p, e)
					}
				}
				for _, p := range append(samples(), onpaper.Wrong()...) {
					if x, ok := r.Governs(p); ok || x != (api.Route{}) || r.Inside(p) {
						t.Errorf("Governs(%v) = %v, %v", p, x, ok)
					}
				}
				for _, a := range onpaper.Addrs() {
					if x, ok := r.Longest(a); ok || x != (api.Route{}) {
						t.Errorf("Longest(%v) = %v, %v", a, x, ok)
					}
				}
				wantDump(t, r, "", "[]")
				wantSize(t, r, 0, 0, 0)
			}
		})
	}
}

// P6.6

func TestReplacementNeedsNoPrefix(t *testing.T) {
	for _, n := range []int{1, 2, 5, 4096} {
		r := New(n, 65536)
		for k := range n {
			r.Add(hosts(k), k)
		}
		for k := range n {
			for _, hop := range []int{k, 65535 - k, 0} {
				if e := r.Add(hosts(k), hop); e != api.OK {
					t.Fatalf("of %d: Add(%v, %d) = %d", n, hosts(k), hop, e)
				}
			}
		}
		if e := r.Add(hosts(n), 0); e != api.ErrFull {
			t.Errorf("of %d: %d", n, e)
		}
		if got, _, _ := r.Size(); got != n || fmt.Sprint(r.Hops()) != "[0]" {
			t.Errorf("of %d: %d routes, to %v", n, got, r.Hops())
		}
	}
}

func TestRoomIsMadeAgain(t *testing.T) {
	r := New(3, 3)
	for k := range 50 {
		for i := range 3 {
			if e := r.Add(hosts(3*k+i), 3*k+i); e != api.OK {
				t.Fatalf("round %d: Add = %d", k, e)
			}
		}
		if e := r.Add(hosts(3*k+3), 3*k); e != api.ErrFull {
			t.Fatalf("round %d: Add = %d to a table that is full", k, e)
		}
		for i := range 3 {
			if e := r.Withdraw(hosts(3*k + i)); e != api.OK {
				t.Fatalf("round %d: Withdraw = %d", k, e)
			}
		}
	}
	if n, nodes, _ := r.Size(); n != 0 || nodes != 2 || len(r.Hops()) != 0 {
		t.Error(n, nodes, r.Hops())
	}
}

func TestRoomForOneIsMadeAgain(t *testing.T) {
	r := New(2, 2)
	play(t, r,
		step{"10.0.0.0/8", 1, api.OK}, step{"::/0", 2, api.OK}, step{"11.0.0.0/8", 1, api.ErrFull},
		step{"10.0.0.0/8", gone, api.OK}, step{"11.0.0.0/8", 3, api.OK}, step{"10.0.0.0/8", 3, api.ErrFull},
		step{"::/0", gone, api.OK}, step{"10.0.0.0/8", 1, api.OK})
	wantDump(t, r, "10.0.0.0/8>1 11.0.0.0/8>3", "[1 3]")
}

// The chapter's example.
func TestExample(t *testing.T) {
	r := New(9, 1)
	play(t, r, step{"10.0.0.0/8", 1, api.OK}, step{"10.0.0.0/8", 2, api.OK}, step{"11.0.0.0/8", 1, api.ErrFull}, step{"::/0", 1, api.ErrFull}, step{"11.0.0.0/8", 2, api.OK})
	wantDump(t, r, "10.0.0.0/8>2 11.0.0.0/8>2", "[2]")
}
