package leafgen

import (
	"math"
	"slices"
	"testing"

	"kedge/api"
	"kedge/onpaper"
	"kedge/rib"
	"kedge/text"
	"kedge/written"
)

// The tests hold the package against blocks written out by hand, and against a model: of an address's digits, written out as text, as many as some route goes along with them, and one more.

// some are routes of both kinds: of no digits, of all, one in another, and one to hop 0 in one to another hop.
const some = "0.0.0.0/0>9 10.0.0.0/8>1 10.1.0.0/16>0 10.1.2.3/32>2 128.0.0.0/1>3 " +
	"2001:db8::/32>4 2001:db8:0:1::/64>0 2001:db8::1/128>65535 8000::/1>1"

// with is a Rib of these routes, and the model of it.
func with(t *testing.T, s string) (*rib.Rib, onpaper.Routes) {
	t.Helper()
	return filled(t, written.Routes(s)...)
}

func filled(t *testing.T, l ...api.Route) (*rib.Rib, onpaper.Routes) {
	t.Helper()
	r, m := rib.New(api.MaxRoutes, api.MaxHop+1), onpaper.Routes{}
	for _, x := range l {
		if e := r.Add(x.P, x.Hop); e != api.OK {
			t.Fatal(x, e)
		}
		m[x.P] = x.Hop
	}
	return r, m
}

// strange are those that were not made by New.
func strange() map[string]*rib.Rib { return map[string]*rib.Rib{"nil": nil, "zero": {}} }

// leasts are below 0, at the widths and about them, and far above.
var leasts = []int{math.MinInt, -129, -1, 0, 1, 2, 8, 15, 16, 17, 31, 32, 33, 63, 64, 65, 127, 128, 129, 160, 256, math.MaxInt}

// exact is all digits of an address, and the hop of its longest route, in the model.
func exact(m onpaper.Routes, a api.Addr) (api.Route, bool) {
	x, ok := m.Longest(a)
	if !ok {
		return api.Route{}, false
	}
	return api.Route{P: onpaper.Cut(a.Hi, a.Lo, onpaper.Width(a.V6), a.V6), Hop: x.Hop}, true
}

// wantSame: of these addresses all is told as the model tells it.
func wantSame(t *testing.T, r *rib.Rib, m onpaper.Routes, addrs ...api.Addr) {
	t.Helper()
	for _, a := range addrs {
		if p := Block(r, a); p != m.Widest(a, 0) {
			t.Errorf("Block(%v) = %v, not %v", a, p, m.Widest(a, 0))
		}
		for _, least := range leasts {
			if p := Widest(r, a, least); p != m.Widest(a, least) {
				t.Errorf("Widest(%v, %d) = %v, not %v", a, least, p, m.Widest(a, least))
			}
		}
		want, there := m.Leaf(a)
		if x, ok := Leaf(r, a); x != want || ok != there {
			t.Errorf("Leaf(%v) = %v, %v, not %v, %v", a, x, ok, want, there)
		}
		want, there = exact(m, a)
		if x, ok := Exact(r, a); x != want || ok != there {
			t.Errorf("Exact(%v) = %v, %v, not %v, %v", a, x, ok, want, there)
		}
	}
}

// mayGo is Good, in the model.
func mayGo(m onpaper.Routes, x api.Route) bool {
	y, ok := m.Governs(x.P)
	return onpaper.MayBe(x.P) && !m.Inside(x.P) && ok && y.Hop == x.Hop
}

// P7.1

func TestBlock(t *testing.T) {
	for _, c := range []struct{ routes, a, want string }{
		{"", "10.1.2.3", "0.0.0.0/0"}, // nothing is inside of N 0
		{"", "2001:db8::1", "::/0"},
		{"0.0.0.0/0>1", "10.1.2.3", "0.0.0.0/0"}, // none is inside of itself
		{"::/0>1", "2001:db8::1", "::/0"},
		{"::/0>1 2001:db8::/32>2", "32.1.13.184", "0.0.0.0/0"}, // the other kind alone
		{"0.0.0.0/0>1 32.1.13.184/32>2", "2001:db8::1", "::/0"},
		{"128.0.0.0/1>1", "10.1.2.3", "0.0.0.0/1"},
		{"128.0.0.0/1>1", "200.1.2.3", "128.0.0.0/1"},
		{"8000::/1>1", "2001:db8::", "::/1"},
		{"8000::/1>1", "ffff::", "8000::/1"},
		{"10.1.0.0/16>1", "10.1.2.3", "10.1.0.0/16"}, // a route ends at the block itself
		{"10.1.0.0/16>1", "10.0.2.3", "10.0.0.0/16"}, // and beside it
		{"10.1.0.0/16>1", "10.2.2.3", "10.2.0.0/15"},
		{"10.1.0.0/16>1", "10.4.2.3", "10.4.0.0/14"},
		{"10.1.0.0/16>1", "138.1.2.3", "128.0.0.0/1"},
		{"2001:db8::/32>1", "2001:db8::1", "2001:db8::/32"},
		{"2001:db8::/32>1", "2001:db9::1", "2001:db9::/32"},
		{"2001:db8::/32>1", "2001:dba::1", "2001:dba::/31"},
		{"10.1.2.3/32>1", "10.1.2.3", "10.1.2.3/32"}, // all digits
		{"10.1.2.3/32>1", "10.1.2.2", "10.1.2.2/32"},
		{"10.1.2.3/32>1", "10.1.2.1", "10.1.2.0/31"},
		{"10.1.2.3/32>1", "10.1.2.4", "10.1.2.4/30"},
		{"2001:db8::1/128>1", "2001:db8::1", "2001:db8::1/128"},
		{"2001:db8::1/128>1", "2001:db8::", "2001:db8::/128"},
		{"2001:db8::1/128>1", "2001:db8::3", "2001:db8::2/127"},
		{"::/64>1", "::ffff", "::/64"}, // at the end of the first word, and behind it
		{"::/65>1", "::ffff", "::/65"},
		{"::/65>1", "::8000:0:0:1", "::8000:0:0:0/65"},
		{"0.0.0.0/32>1", "0.0.0.0", "0.0.0.0/32"},
		{"255.255.255.255/32>1", "255.255.255.255", "255.255.255.255/32"},
		{"ffff:ffff:ffff:ffff:ffff:ffff:ffff:ffff/128>1", "ffff:ffff:ffff:ffff:ffff:ffff:ffff:ffff", "ffff:ffff:ffff:ffff:ffff:ffff:ffff:ffff/128"},
		{"10.0.0.0/8>1 10.1.0.0/16>2", "10.1.2.3", "10.1.0.0/16"}, // one in another
		{"10.0.0.0/8>1 10.1.0.0/16>2", "10.128.0.0", "10.128.0.0/9"},
		{"10.0.0.0/8>1 10.1.0.0/16>2 10.1.2.3/32>3", "10.1.2.0", "10.1.2.0/31"},
		{"10.1.0.0/16>1 10.0.0.0/15>1", "10.0.0.0", "10.0.0.0/16"}, // it matters not that both go one way
	} {
		r, _ := with(t, c.routes)
		if s := text.Print(Block(r, written.Addr(c.a))); s != c.want {
			t.Errorf("with %s: Block(%s) = %s, not %s", c.routes, c.a, s, c.want)
		}
	}
}

// One route of each length: an address that leaves it at a digit has a block up to that digit, with it.
func TestBlockAtEachLength(t *testing.T) {
	for _, v6 := range []bool{false, true} {
		a := onpaper.Cut(0xC1A3957B0D2F4E68, 0x9D5B7F31E2C48A61, onpaper.Width(v6), v6).A
		for n := 0; n <= onpaper.Width(v6); n++ {
			r, _ := filled(t, api.Route{P: onpaper.Cut(a.Hi, a.Lo, n, v6), Hop: n})
			if p := Block(r, a); p != onpaper.Cut(a.Hi, a.Lo, n, v6) {
				t.Errorf("with one of %d digits: Block(%v) = %v", n, a, p)
			}
			for k := range onpaper.Width(v6) {
				b, long := onpaper.Flip(a, k), min(k+1, n)
				if p := Block(r, b); p != onpaper.Cut(b.Hi, b.Lo, long, v6) {
					t.Errorf("with one of %d digits: Block of one that leaves it at %d has %d digits", n, k, p.N)
				}
			}
		}
	}
}

func TestWidest(t *testing.T) {
	r, _ := with(t, some)
	for _, c := range []struct {
		a     string
		least int
		want  string
	}{
		{"10.1.2.9", math.MinInt, "10.1.2.8/29"}, {"10.1.2.9", -1, "10.1.2.8/29"}, {"10.1.2.9", 0, "10.1.2.8/29"},
		{"10.1.2.9", 16, "10.1.2.8/29"}, {"10.1.2.9", 28, "10.1.2.8/29"}, // shorter than Block
		{"10.1.2.9", 29, "10.1.2.8/29"},                                  // as long
		{"10.1.2.9", 30, "10.1.2.8/30"}, {"10.1.2.9", 31, "10.1.2.8/31"}, // longer
		{"10.1.2.9", 32, "10.1.2.9/32"}, {"10.1.2.9", 33, "10.1.2.9/32"}, {"10.1.2.9", 128, "10.1.2.9/32"}, {"10.1.2.9", math.MaxInt, "10.1.2.9/32"},
		{"10.1.2.3", -7, "10.1.2.3/32"}, {"10.1.2.3", 0, "10.1.2.3/32"}, {"10.1.2.3", 31, "10.1.2.3/32"}, {"10.1.2.3", 32, "10.1.2.3/32"}, {"10.1.2.3", 99, "10.1.2.3/32"},
		{"200.1.2.3", 0, "128.0.0.0/1"}, {"200.1.2.3", 1, "128.0.0.0/1"}, {"200.1.2.3", 2, "192.0.0.0/2"}, {"200.1.2.3", 24, "200.1.2.0/24"},
		{"8000::1", math.MinInt, "8000::/1"}, {"8000::1", 0, "8000::/1"}, {"8000::1", 2, "8000::/2"},
		{"8000::1", 32, "8000::/32"}, {"8000::1", 33, "8000::/33"}, {"8000::1", 64, "8000::/64"}, {"8000::1", 65, "8000::/65"}, {"8000::1", 127, "8000::/127"},
		{"8000::1", 128, "8000::1/128"}, {"8000::1", 129, "8000::1/128"}, {"8000::1", math.MaxInt, "8000::1/128"},
		{"2001:db8:0:1::9", 33, "2001:db8:0:1::/64"}, {"2001:db8:0:1::9", 64, "2001:db8:0:1::/64"}, {"2001:db8:0:1::9", 80, "2001:db8:0:1::/80"},
	} {
		if s := text.Print(Widest(r, written.Addr(c.a), c.least)); s != c.want {
			t.Errorf("Widest(%s, %d) = %s, not %s", c.a, c.least, s, c.want)
		}
	}
}

func TestWidestWithoutRoutes(t *testing.T) {
	r := rib.New(9, 9)
	for _, a := range onpaper.Addrs() {
		for _, least := range leasts {
			n := min(max(least, 0), onpaper.Width(a.V6))
			if p := Widest(r, a, least); p != onpaper.Cut(a.Hi, a.Lo, n, a.V6) {
				t.Errorf("Widest(%v, %d) = %v", a, least, p)
			}
		}
	}
}

// P7.2

func TestLeafAndExact(t *testing.T) {
	r, _ := with(t, some)
	for _, c := range []struct{ a, leaf, exact string }{
		{"10.0.0.1", "10.0.0.0/16>1", "10.0.0.1/32>1"},
		{"10.1.3.0", "10.1.3.0/24>0", "10.1.3.0/32>0"}, // to hop 0, which is a route as others are
		{"10.1.2.3", "10.1.2.3/32>2", "10.1.2.3/32>2"},
		{"10.1.2.2", "10.1.2.2/32>0", "10.1.2.2/32>0"},
		{"11.0.0.0", "11.0.0.0/8>9", "11.0.0.0/32>9"}, // by the route of no digits
		{"0.0.0.0", "0.0.0.0/5>9", "0.0.0.0/32>9"},
		{"255.255.255.255", "128.0.0.0/1>3", "255.255.255.255/32>3"},
		{"2001:db8::", "2001:db8::/128>4", "2001:db8::/128>4"},
		{"2001:db8::1", "2001:db8::1/128>65535", "2001:db8::1/128>65535"},
		{"2001:db8:0:1::ff", "2001:db8:0:1::/64>0", "2001:db8:0:1::ff/128>0"},
		{"2001:db8:0:2::ff", "2001:db8:0:2::/63>4", "2001:db8:0:2::ff/128>4"},
		{"2001:db8:8000::", "2001:db8:8000::/33>4", "2001:db8:8000::/128>4"},
		{"ffff::", "8000::/1>1", "ffff::/128>1"},
	} {
		a := written.Addr(c.a)
		if x, ok := Leaf(r, a); !ok || written.Show(x) != c.leaf {
			t.Errorf("Leaf(%s) = %s, %v, not %s", c.a, written.Show(x), ok, c.leaf)
		}
		if x, ok := Exact(r, a); !ok || written.Show(x) != c.exact {
			t.Errorf("Exact(%s) = %s, %v, not %s", c.a, written.Show(x), ok, c.exact)
		}
	}
}

// Where none governs there is a Block, but no leaf.
func TestNoRouteGoverns(t *testing.T) {
	r, _ := with(t, "10.1.0.0/16>1 2001:db8::/32>2")
	for a, block := range map[string]string{
		"10.0.0.1": "10.0.0.0/16", "11.0.0.0": "11.0.0.0/8", "200.0.0.0": "128.0.0.0/1", "10.2.0.0": "10.2.0.0/15",
		"::1": "::/3", "2001:db9::": "2001:db9::/32", "ffff::": "8000::/1", "a01::": "::/3",
	} {
		if s := text.Print(Block(r, written.Addr(a))); s != block {
			t.Errorf("Block(%s) = %s, not %s", a, s, block)
		}
		if x, ok := Leaf(r, written.Addr(a)); ok || x != (api.Route{}) {
			t.Errorf("Leaf(%s) = %v, %v", a, x, ok)
		}
		if x, ok := Exact(r, written.Addr(a)); ok || x != (api.Route{}) {
			t.Errorf("Exact(%s) = %v, %v", a, x, ok)
		}
	}
}

// P7.1, P7.2, with digits that a short address does not have: they are not looked at, and not told.
func TestAddressThatMayNotBe(t *testing.T) {
	r, m := with(t, some)
	for _, s := range []string{"10.0.0.1", "10.1.2.3", "10.1.2.2", "200.0.0.0", "32.1.13.184"} {
		for _, less := range []struct{ hi, lo uint64 }{{1, 0}, {1 << 31, 0}, {0, 1}, {0, 1 << 63}, {math.MaxUint32, math.MaxUint64}} {
			a := written.Addr(s)
			b := api.Addr{Hi: a.Hi | less.hi, Lo: a.Lo | less.lo}
			wantSame(t, r, m, a, b)
			x, _ := Leaf(r, a)
			if y, ok := Leaf(r, b); y != x || !ok || !onpaper.MayBe(y.P) {
				t.Errorf("Leaf(%v) = %v, %v, not %v", b, y, ok, x)
			}
			x, _ = Exact(r, a)
			if y, ok := Exact(r, b); y != x || !ok || !onpaper.MayBe(y.P) {
				t.Errorf("Exact(%v) = %v, %v, not %v", b, y, ok, x)
			}
			if p := Widest(r, b, 99); p != written.Prefix(s+"/32") {
				t.Errorf("Widest(%v, 99) = %v", b, p)
			}
		}
	}
}

// P7.3

func TestGood(t *testing.T) {
	r, _ := with(t, "10.0.0.0/8>1 10.1.0.0/16>0 10.1.2.3/32>2 2001:db8::/32>4 2001:db8::1/128>65535")
	for _, c := range []struct {
		x    string
		want bool
	}{
		{"10.1.4.0/24>0", true}, {"10.0.0.0/16>1", true}, {"10.2.0.0/15>1", true}, {"10.128.0.0/9>1", true}, {"10.200.1.1/32>1", true},
		{"10.1.2.3/32>2", true}, {"10.1.2.2/32>0", true}, {"10.1.2.0/31>0", true}, {"10.1.128.0/17>0", true},
		{"2001:db8::1/128>65535", true}, {"2001:db8::/128>4", true}, {"2001:db8::2/127>4", true}, {"2001:db8:8000::/33>4", true}, {"2001:db8:ffff::/64>4", true},
		{"10.1.2.2/31>0", false}, {"10.1.2.0/24>0", false}, {"10.1.0.0/16>0", false}, {"10.0.0.0/8>1", false}, {"10.0.0.0/15>1", false}, // a route lies inside
		{"2001:db8::/32>4", false}, {"2001:db8::/127>4", false},
		{"0.0.0.0/0>0", false}, {"::/0>0", false}, // and none governs
		{"11.0.0.0/8>0", false}, {"11.0.0.0/8>1", false}, {"128.0.0.0/1>0", false}, {"2001:db9::/32>0", false}, {"2001:db9::/32>4", false}, {"a02::/16>1", false}, // none governs
		{"10.1.4.0/24>1", false}, {"10.1.4.0/24>2", false}, {"10.0.0.0/16>0", false}, {"10.1.2.3/32>0", false}, {"10.1.2.3/32>1", false}, // to another hop
		{"2001:db8::1/128>4", false}, {"2001:db8::1/128>0", false}, {"2001:db8::2/127>65535", false},
		{"10.1.2.3/32>65538", false}, {"10.1.2.3/32>-1", false}, {"2001:db8::1/128>-1", false}, {"10.1.4.0/24>65536", false}, // to none that there may be
	} {
		if got := Good(r, written.Route(c.x)); got != c.want {
			t.Errorf("Good(%s) = %v", c.x, got)
		}
	}
}

func TestGoodOfPrefixThatMayNotBe(t *testing.T) {
	full, _ := with(t, "0.0.0.0/0>1 ::/0>1")
	same, _ := with(t, "0.0.0.0/0>0 ::/0>0")
	for _, p := range onpaper.Wrong() {
		for _, hop := range []int{0, 1, -1} {
			if Good(full, api.Route{P: p, Hop: hop}) || Good(same, api.Route{P: p, Hop: hop}) {
				t.Errorf("Good(%v, %d)", p, hop)
			}
		}
	}
}

// Every call, with what was not made by New.
func TestRibNotMadeByNew(t *testing.T) {
	for name, r := range strange() {
		t.Run(name, func(t *testing.T) {
			wantSame(t, r, onpaper.Routes{}, onpaper.Addrs()...)
			for _, a := range onpaper.Addrs() {
				if p := Block(r, a); p != (api.Prefix{A: api.Addr{V6: a.V6}}) {
					t.Errorf("Block(%v) = %v", a, p)
				}
				if x, ok := Leaf(r, a); ok || x != (api.Route{}) {
					t.Errorf("Leaf(%v) = %v, %v", a, x, ok)
				}
				if x, ok := Exact(r, a); ok || x != (api.Route{}) {
					t.Errorf("Exact(%v) = %v, %v", a, x, ok)
				}
			}
			for _, p := range append(onpaper.Wrong(), written.Prefixes("0.0.0.0/0 ::/0 10.0.0.0/8 10.1.2.3/32 2001:db8::/32")...) {
				if Good(r, api.Route{P: p}) || Good(r, api.Route{P: p, Hop: 1}) {
					t.Errorf("Good(%v)", p)
				}
			}
		})
	}
}

// P7.4

// told is what an address has.
type told struct {
	a           api.Addr
	leaf, route api.Route
	ok          bool
}

func tell(t *testing.T, r *rib.Rib, addrs []api.Addr) []told {
	t.Helper()
	var l []told
	for _, a := range addrs {
		leaf, ok := Leaf(r, a)
		route, routed := r.Longest(a)
		if routed != ok {
			t.Errorf("%v has a route: %v; a leaf: %v", a, routed, ok)
		}
		l = append(l, told{a, leaf, route, ok})
	}
	return l
}

func TestWhatFollows(t *testing.T) {
	mix := onpaper.Mixer(7)
	for _, s := range onpaper.Worlds() {
		for range 20 {
			r, m := filled(t, s.Routes(&mix)...)
			l := tell(t, r, s.Addrs())
			for _, x := range l {
				wantLeaf(t, r, l, x)
			}
			for _, p := range s.Prefixes() {
				for hop := range 4 {
					wantGood(t, r, m, l, api.Route{P: p, Hop: hop})
				}
			}
			if t.Failed() {
				t.Fatalf("with %s", written.Show(m.All()...))
			}
		}
	}
}

// wantLeaf: an address's leaf is Good, contains it, is that of every address in it, which goes by its hop, and is apart from each other one.
func wantLeaf(t *testing.T, r *rib.Rib, l []told, x told) {
	t.Helper()
	if !x.ok {
		return
	}
	p := x.leaf.P
	if !Good(r, x.leaf) || !onpaper.Contains(p, x.a) {
		t.Errorf("the leaf of %v is not Good, or does not contain it", x)
	}
	for _, y := range l {
		if onpaper.Contains(p, y.a) && (!y.ok || y.leaf != x.leaf || y.route.Hop != x.leaf.Hop) {
			t.Errorf("%v is in the leaf of %v", y, x)
		}
		if y.ok && y.leaf != x.leaf && (onpaper.Covers(p, y.leaf.P) || onpaper.Covers(y.leaf.P, p)) {
			t.Errorf("the leaves of %v and %v are not apart", x, y)
		}
	}
}

// wantGood: a block is Good as the model tells it, and then lies in the leaf of each of its addresses.
func wantGood(t *testing.T, r *rib.Rib, m onpaper.Routes, l []told, x api.Route) {
	t.Helper()
	good := Good(r, x)
	if good != mayGo(m, x) {
		t.Errorf("Good(%v) = %v", x, good)
	}
	for _, y := range l {
		if good && onpaper.Contains(x.P, y.a) && (!y.ok || !onpaper.Covers(y.leaf.P, x.P) || y.leaf.Hop != x.Hop) {
			t.Errorf("%v is Good, but not in the leaf of %v", x, y)
		}
	}
}

// P7.1 to P7.3, of routes of both kinds, while they come and go: what is told is what there is then.
func TestWhileRoutesComeAndGo(t *testing.T) {
	mix := onpaper.Mixer(77)
	r, m := filled(t)
	l := written.Prefixes("0.0.0.0/0 128.0.0.0/1 10.0.0.0/8 10.1.0.0/16 10.1.2.0/24 10.1.2.3/32 10.1.2.2/32 11.0.0.0/8 0.0.0.0/32 255.255.255.255/32 " +
		"::/0 8000::/1 2001:db8::/32 2001:db8::/33 2001:db9::/32 2001:db8::/64 2001:db8::/65 2001:db8::1/128 ::/128 a01::/16")
	for range 120 {
		p := l[mix.Below(len(l))]
		if _, ok := m[p]; ok {
			r.Withdraw(p)
			delete(m, p)
		} else {
			hop := mix.Below(4)
			r.Add(p, hop)
			m[p] = hop
		}
		wantSame(t, r, m, onpaper.Addrs()[mix.Below(len(onpaper.Addrs()))], p.A)
		for _, q := range l {
			for hop := range 4 {
				if x := (api.Route{P: q, Hop: hop}); Good(r, x) != mayGo(m, x) {
					t.Errorf("Good(%v) = %v", x, Good(r, x))
				}
			}
		}
	}
	wantSame(t, r, m, onpaper.Addrs()...)
}

// Asking changes no route.
func TestKeepsNothing(t *testing.T) {
	r, m := with(t, some)
	n, nodes, slots := r.Size()
	for _, a := range onpaper.Addrs() {
		Leaf(r, a)
		Block(r, a)
		Exact(r, a)
		Widest(r, a, 20)
		Good(r, api.Route{P: api.Prefix{A: a, N: 20}, Hop: 5})
	}
	if a, b, c := r.Size(); a != n || b != nodes || c != slots || !slices.Equal(r.Dump(), m.All()) {
		t.Error(a, b, c, r.Dump())
	}
}

// The chapter's example.
func TestExample(t *testing.T) {
	r, _ := with(t, "0.0.0.0/0>1 10.1.0.0/16>2")
	x, ok := Leaf(r, written.Addr("10.0.0.1"))
	if !ok || written.Show(x) != "10.0.0.0/16>1" {
		t.Error(written.Show(x), ok)
	}
}
