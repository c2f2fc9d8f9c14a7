package table

import (
	"math"
	"math/bits"
	"slices"
	"testing"

	"kedge/api"
	"kedge/onpaper"
	"kedge/prefix"
	"kedge/written"
)

// policies are of any kind; only 1 is Light.
var policies = []int{0, 1, math.MinInt, -1 << 32, -1, 2, 3, 255, 256, 257, 1<<32 + 1, math.MaxInt}

// rows are prefixes of 16 digits that are apart, n of them at the most 65536, each to a hop of its own.
func rows(n int) []api.Route {
	var l []api.Route
	for k := range n {
		l = append(l, api.Route{P: onpaper.Cut(uint64(k)<<48, 0, 16, false), Hop: k})
	}
	return l
}

// with is a table of these, installed one behind the other; there is room for all of them.
func with(t *testing.T, most, policy int, routes string) *Table {
	t.Helper()
	x := New(most, policy)
	for _, y := range written.Routes(routes) {
		wantReport(t, x.Install(y, false), "", "")
	}
	return x
}

// wantReport: it is in, and these were absorbed, and are out.
func wantReport(t *testing.T, r Report, absorbed, out string) {
	t.Helper()
	if !r.In || written.Show(r.Absorbed...) != absorbed || written.Show(r.Out...) != out {
		t.Errorf("%v, not absorbed %q, out %q", r, absorbed, out)
	}
}

// wantNothing: nothing was installed.
func wantNothing(t *testing.T, r Report) {
	t.Helper()
	if r.In || len(r.Absorbed) > 0 || len(r.Out) > 0 {
		t.Error(r)
	}
}

// want: just these are resident, told the one that was used last first.
func want(t *testing.T, x *Table, order string) {
	t.Helper()
	l := written.Routes(order)
	var prefixes []api.Prefix
	for _, y := range l {
		prefixes = append(prefixes, y.P)
	}
	if got := x.Order(); !slices.Equal(got, prefixes) {
		t.Errorf("Order = %v, not %s", got, order)
	}
	slices.SortFunc(l, func(y, z api.Route) int { return onpaper.Compare(y.P, z.P) })
	if got := x.All(); !slices.Equal(got, l) {
		t.Errorf("All = %s, not %s", written.Show(got...), written.Show(l...))
	}
	if n, _ := x.Size(); n != len(l) {
		t.Errorf("Size = %d, not %d", n, len(l))
	}
}

// hits are of addresses in residents.
func hits(t *testing.T, x *Table, addrs ...string) {
	t.Helper()
	for _, s := range addrs {
		if _, ok := x.Hit(written.Addr(s)); !ok {
			t.Errorf("no resident contains %s", s)
		}
	}
}

// P13.1

func TestSizes(t *testing.T) {
	for _, policy := range policies {
		for most, may := range map[int]int{math.MinInt: 0, -1024: 0, -1: 0, 0: 0, 1: 1, 2: 2, 3: 3, 1023: 1023, 1024: 1024, 1025: 1024, 4096: 1024, math.MaxInt: 1024} {
			x := New(most, policy)
			want(t, x, "")
			if n, m := x.Size(); n != 0 || m != may {
				t.Errorf("New(%d, %d) has Size %d, %d", most, policy, n, m)
			}
		}
	}
}

// Until no place is free, and beyond.
func TestFilled(t *testing.T) {
	for _, most := range []int{math.MinInt, -1, 0, 1, 2, 7, 1023, 1024, 1025, math.MaxInt} {
		x, may, l := New(most, 0), min(max(most, 0), 1024), rows(1030)
		for k, y := range l {
			r := x.Install(y, false)
			if r.In != (may > 0) || (len(r.Out) == 1) != (may > 0 && k >= may) || len(r.Absorbed) > 0 {
				t.Errorf("New(%d): Install %d is %v", most, k, r)
			}
			if len(r.Out) == 1 && r.Out[0] != l[k-may] {
				t.Errorf("New(%d): Install %d is %v", most, k, r)
			}
			if n, m := x.Size(); n != min(k+1, may) || m != may {
				t.Errorf("New(%d): Size = %d, %d behind %d", most, n, m, k+1)
			}
		}
		if got := x.All(); !slices.Equal(got, l[len(l)-may:]) {
			t.Errorf("New(%d): All = %s", most, written.Show(got...))
		}
	}
}

// All is by the prefixes, Order by their use; neither goes by the hops.
func TestAllAndOrder(t *testing.T) {
	x := with(t, 9, 0, "::/1>9 11.0.0.0/8>1 10.128.0.0/9>5 8000::/2>0 10.0.0.0/16>7 0.0.0.0/5>65535")
	want(t, x, "0.0.0.0/5>65535 10.0.0.0/16>7 8000::/2>0 10.128.0.0/9>5 11.0.0.0/8>1 ::/1>9")
	if got := written.Show(x.All()...); got != "0.0.0.0/5>65535 10.0.0.0/16>7 10.128.0.0/9>5 11.0.0.0/8>1 ::/1>9 8000::/2>0" {
		t.Error(got)
	}
	hits(t, x, "10.0.3.4", "1::", "10.200.0.0", "1::2")
	want(t, x, "::/1>9 10.128.0.0/9>5 10.0.0.0/16>7 0.0.0.0/5>65535 8000::/2>0 11.0.0.0/8>1")
}

func TestBehindEachCall(t *testing.T) {
	x := New(3, 0)
	want(t, x, "")
	wantReport(t, x.Install(written.Route("10.0.0.0/8>1"), true), "", "")
	want(t, x, "10.0.0.0/8>1")
	wantReport(t, x.Install(written.Route("0.0.0.0/8>2"), false), "", "")
	want(t, x, "0.0.0.0/8>2 10.0.0.0/8>1")
	x.Find(written.Addr("10.0.0.1"))
	want(t, x, "0.0.0.0/8>2 10.0.0.0/8>1")
	hits(t, x, "10.0.0.1")
	want(t, x, "10.0.0.0/8>1 0.0.0.0/8>2")
	x.Tick()
	want(t, x, "10.0.0.0/8>1 0.0.0.0/8>2")
	wantReport(t, x.Install(written.Route("10.0.0.0/7>3"), false), "10.0.0.0/8>1", "")
	want(t, x, "10.0.0.0/7>3 0.0.0.0/8>2")
	if !x.Evict(written.Prefix("10.0.0.0/7")) {
		t.Error("Evict")
	}
	want(t, x, "0.0.0.0/8>2")
	if l := x.Flush(written.Prefix("0.0.0.0/0")); written.Show(l...) != "0.0.0.0/8>2" {
		t.Error(l)
	}
	want(t, x, "")
}

// P13.2

// by is an address so many addresses on; the first one of all is behind the last one.
func by(a api.Addr, n int) api.Addr {
	if !a.V6 {
		a.Hi += uint64(n) << 32
		return a
	}
	lo, carry := bits.Add64(a.Lo, uint64(n), 0)
	if n < 0 {
		carry-- // uint64(n) is 2^64 more
	}
	return api.Addr{Hi: a.Hi + carry, Lo: lo, V6: true}
}

// edges are the first and the last address of a prefix, those just beside it, and the same digits of the other kind.
func edges(p api.Prefix) []api.Addr {
	first, last := prefix.Ends(p)
	l := []api.Addr{first, last, by(first, -1), by(last, 1)}
	for _, a := range l[:4] {
		a.V6 = !a.V6
		l = append(l, a)
	}
	return l
}

func TestEdges(t *testing.T) {
	c := newPair(t, 16, 0)
	l := written.Routes("0.0.0.0/8>1 10.0.0.0/8>2 11.0.0.0/32>3 11.0.0.2/31>4 128.0.0.0/1>5 ::/128>6 ::2/127>7 2001:db8::/32>8 2001:db9:0:0:8000::/65>0 8000::/1>65535")
	for _, x := range l {
		c.install(x, false)
	}
	for _, x := range l {
		for _, a := range edges(x.P) {
			c.find(a)
			c.hit(a)
			c.same()
		}
		for _, a := range edges(x.P)[:2] {
			if y, ok := c.x.Find(a); y != x || !ok {
				t.Errorf("Find(%v) = %v, %v, not %v", a, y, ok, x)
			}
			c.hit(a)
			if c.x.Order()[0] != x.P {
				t.Errorf("Order = %v behind a Hit of %v", c.x.Order(), x)
			}
		}
	}
	c.findAll(onpaper.Addrs())
}

// The widest prefixes contain all of their kind, and none of the other one.
func TestWidest(t *testing.T) {
	short, long := with(t, 2, 0, "0.0.0.0/0>1"), with(t, 2, 0, "::/0>2")
	for _, a := range onpaper.Addrs() {
		x, ok := short.Find(a)
		y, there := long.Find(a)
		if ok == a.V6 || there != a.V6 || ok != (x.Hop == 1) || there != (y.Hop == 2) {
			t.Errorf("Find(%v) = %v, %v, and %v, %v", a, x, ok, y, there)
		}
	}
}

// Digits that a short address does not have are not looked at.
func TestDigitsBehind(t *testing.T) {
	x := with(t, 2, 0, "10.0.0.1/32>1 0.0.0.0/8>2")
	for _, a := range []api.Addr{{Hi: 0x0A000001<<32 | 1}, {Hi: 0x0A000001 << 32, Lo: 1}, {Hi: 0x0A000001<<32 | math.MaxUint32, Lo: math.MaxUint64}} {
		if y, ok := x.Find(a); !ok || y.Hop != 1 {
			t.Errorf("Find(%v) = %v, %v", a, y, ok)
		}
		want(t, x, "0.0.0.0/8>2 10.0.0.1/32>1")
		if y, ok := x.Hit(a); !ok || y.Hop != 1 {
			t.Errorf("Hit(%v) = %v, %v", a, y, ok)
		}
		want(t, x, "10.0.0.1/32>1 0.0.0.0/8>2")
		hits(t, x, "0.1.0.0")
	}
	if y, ok := x.Find(api.Addr{Hi: 0x0A000002<<32 | 1}); ok || y != (api.Route{}) {
		t.Error(y, ok)
	}
}

// A miss changes nothing: neither the order, nor what is counted.
func TestMiss(t *testing.T) {
	x := with(t, 3, 1, "10.0.0.0/8>1 11.0.0.0/8>2 12.0.0.0/8>3")
	hits(t, x, "12.0.0.0", "11.0.0.0")
	for _, s := range []string{"9.255.255.255", "13.0.0.0", "0.0.0.0", "255.255.255.255", "::", "a00::", "b00::1"} {
		for range 5 {
			for _, ask := range []func(api.Addr) (api.Route, bool){x.Find, x.Hit} {
				if y, ok := ask(written.Addr(s)); ok || y != (api.Route{}) {
					t.Errorf("%s is in %v, %v", s, y, ok)
				}
			}
		}
	}
	want(t, x, "11.0.0.0/8>2 12.0.0.0/8>3 10.0.0.0/8>1")
	wantReport(t, x.Install(written.Route("13.0.0.0/8>4"), false), "", "10.0.0.0/8>1")
	for _, a := range onpaper.Addrs() {
		if y, ok := New(4, 0).Hit(a); ok || y != (api.Route{}) {
			t.Errorf("of none: %v, %v", y, ok)
		}
	}
}

// A Find uses and counts nothing.
func TestFindCountsNothing(t *testing.T) {
	x := with(t, 2, 1, "10.0.0.0/8>1 11.0.0.0/8>2")
	for range 5 {
		x.Find(written.Addr("10.1.1.1"))
	}
	want(t, x, "11.0.0.0/8>2 10.0.0.0/8>1")
	wantReport(t, x.Install(written.Route("12.0.0.0/8>3"), false), "", "10.0.0.0/8>1")
}

// P13.3

func TestExample(t *testing.T) {
	for _, policy := range []int{0, 1} {
		x := with(t, 2, policy, "10.0.0.0/8>1 11.0.0.0/8>2")
		wantReport(t, x.Install(written.Route("12.0.0.0/8>3"), false), "", "10.0.0.0/8>1")
		want(t, x, "12.0.0.0/8>3 11.0.0.0/8>2")
	}
}

// Residents are 10.0.0.0/16, 10.1.0.0/16, 12.0.0.0/8, 2001:db8::/32, with and without a free place.
func TestInstall(t *testing.T) {
	const here = "2001:db8::/32>4 12.0.0.0/8>3 10.1.0.0/16>2 10.0.0.0/16>1" // as it is told by Order
	for _, c := range []struct{ x, absorbed, left string }{
		{"10.0.0.0/16>7", "no", ""},
		{"10.0.0.0/16>1", "no", ""},
		{"10.0.0.0/17>7", "no", ""},
		{"10.1.255.255/32>7", "no", ""},
		{"12.128.0.0/9>7", "no", ""},
		{"2001:db8::/128>7", "no", ""},
		{"2001:db8::/32>7", "no", ""},
		{"10.0.0.0/15>7", "10.0.0.0/16>1 10.1.0.0/16>2", "2001:db8::/32>4 12.0.0.0/8>3"},
		{"10.0.0.0/8>0", "10.0.0.0/16>1 10.1.0.0/16>2", "2001:db8::/32>4 12.0.0.0/8>3"},
		{"12.0.0.0/7>65535", "12.0.0.0/8>3", "2001:db8::/32>4 10.1.0.0/16>2 10.0.0.0/16>1"},
		{"8.0.0.0/5>7", "10.0.0.0/16>1 10.1.0.0/16>2 12.0.0.0/8>3", "2001:db8::/32>4"},
		{"0.0.0.0/0>7", "10.0.0.0/16>1 10.1.0.0/16>2 12.0.0.0/8>3", "2001:db8::/32>4"},
		{"2000::/3>7", "2001:db8::/32>4", "12.0.0.0/8>3 10.1.0.0/16>2 10.0.0.0/16>1"},
		{"::/0>7", "2001:db8::/32>4", "12.0.0.0/8>3 10.1.0.0/16>2 10.0.0.0/16>1"},
		{"11.0.0.0/8>7", "", here},
		{"10.2.0.0/15>7", "", here},
		{"12.0.0.0/8>x", "no", ""},
		{"2001:db9::/32>7", "", here},
		{"::/32>7", "", here},
	} {
		for _, most := range []int{4, 5} {
			for _, soft := range []bool{false, true} {
				x := with(t, most, 0, "10.0.0.0/16>1 10.1.0.0/16>2 12.0.0.0/8>3 2001:db8::/32>4")
				r := x.Install(written.Route(c.x), soft)
				switch {
				case c.absorbed == "no", soft && c.absorbed != "", soft && most == 4:
					wantNothing(t, r)
					want(t, x, here)
				case c.absorbed == "" && most == 4:
					wantReport(t, r, "", "10.0.0.0/16>1")
					want(t, x, c.x+" 2001:db8::/32>4 12.0.0.0/8>3 10.1.0.0/16>2")
				default:
					wantReport(t, r, c.absorbed, "")
					want(t, x, c.x+" "+c.left)
				}
			}
		}
	}
}

// A free place comes by what is absorbed: nobody is out.
func TestAbsorbedOfAll(t *testing.T) {
	x := with(t, 3, 0, "12.0.0.0/8>3 10.0.0.0/8>1 11.0.0.0/8>2")
	wantReport(t, x.Install(written.Route("0.0.0.0/0>9"), false), "10.0.0.0/8>1 11.0.0.0/8>2 12.0.0.0/8>3", "")
	want(t, x, "0.0.0.0/0>9")
	wantReport(t, x.Install(written.Route("::/0>8"), true), "", "")
	wantNothing(t, x.Install(written.Route("0.0.0.0/0>8"), false))
	want(t, x, "::/0>8 0.0.0.0/0>9")
}

func TestOnePlace(t *testing.T) {
	x := with(t, 1, 1, "10.0.0.0/8>1")
	wantNothing(t, x.Install(written.Route("11.0.0.0/8>2"), true))
	wantReport(t, x.Install(written.Route("11.0.0.0/8>2"), false), "", "10.0.0.0/8>1")
	wantReport(t, x.Install(written.Route("10.0.0.0/7>3"), false), "11.0.0.0/8>2", "")
	wantReport(t, x.Install(written.Route("::/0>4"), false), "", "10.0.0.0/7>3")
	want(t, x, "::/0>4")
}

func wrongRoutes() []api.Route {
	l := []api.Route{{Hop: -1}, {Hop: 65536}, {Hop: math.MinInt}, {Hop: math.MaxInt}, {P: written.Prefix("20.0.0.0/8"), Hop: -1}, {P: api.Prefix{A: api.Addr{V6: true}}, Hop: 65536}}
	for _, p := range onpaper.Wrong() {
		l = append(l, api.Route{P: p}, api.Route{P: p, Hop: 1})
	}
	return l
}

// A route that may not be changes nothing: nor is it counted.
func TestWrongRoutes(t *testing.T) {
	for _, most := range []int{0, 1, 2, 3, 9} {
		for _, policy := range []int{0, 1} {
			c := newPair(t, most, policy)
			for _, x := range written.Routes("10.0.0.0/8>1 11.0.0.0/8>2 2001:db8::/32>3") {
				c.install(x, false)
			}
			before := c.x.Order()
			for _, x := range wrongRoutes() {
				for _, soft := range []bool{false, true} {
					wantNothing(t, c.x.Install(x, soft))
				}
			}
			if !slices.Equal(c.x.Order(), before) {
				t.Errorf("Order = %v, not %v", c.x.Order(), before)
			}
			for _, x := range rows(4) {
				c.install(x, false)
				c.same()
			}
		}
	}
}

// Where there may be no resident nothing is installed.
func TestNoPlace(t *testing.T) {
	for _, most := range []int{math.MinInt, -1, 0} {
		for _, policy := range policies {
			wantEmpty(t, New(most, policy))
		}
	}
}

// The least of all that the counts of these are is the last one's, as long as all are counted once.
func TestLRU(t *testing.T) {
	for _, policy := range policies {
		if policy == 1 {
			continue
		}
		x := with(t, 3, policy, "10.0.0.0/8>1 11.0.0.0/8>2 12.0.0.0/8>3")
		hits(t, x, "11.0.0.0", "11.0.0.0", "12.0.0.0", "11.0.0.0", "10.0.0.1", "12.0.0.1")
		wantReport(t, x.Install(written.Route("13.0.0.0/8>4"), false), "", "11.0.0.0/8>2") // which has the greatest count
		wantReport(t, x.Install(written.Route("14.0.0.0/8>5"), false), "", "10.0.0.0/8>1")
		hits(t, x, "12.0.0.0")
		wantReport(t, x.Install(written.Route("15.0.0.0/8>6"), false), "", "13.0.0.0/8>4")
		want(t, x, "15.0.0.0/8>6 12.0.0.0/8>3 14.0.0.0/8>5")
	}
}

func TestLight(t *testing.T) {
	x := with(t, 3, 1, "10.0.0.0/8>1 11.0.0.0/8>2 12.0.0.0/8>3")
	hits(t, x, "10.0.0.1", "10.0.0.2", "11.0.0.0")                                     // 3, 2, 1
	wantReport(t, x.Install(written.Route("13.0.0.0/8>4"), false), "", "12.0.0.0/8>3") // used later than 10.0.0.0/8, but least
	hits(t, x, "13.0.0.0", "13.0.0.0")                                                 // 3, 2, 3
	wantReport(t, x.Install(written.Route("12.0.0.0/8>5"), false), "", "11.0.0.0/8>2") // 12.0.0.0/8 has 2 now: what went stays counted
	hits(t, x, "12.0.0.0", "13.0.0.0")                                                 // 10.0.0.0/8 has 3, 13.0.0.0/8 has 4, 12.0.0.0/8 has 3
	wantReport(t, x.Install(written.Route("14.0.0.0/8>6"), false), "", "10.0.0.0/8>1") // alike with 12.0.0.0/8: the one that was used earlier
	want(t, x, "14.0.0.0/8>6 13.0.0.0/8>4 12.0.0.0/8>5")
}

// What was let go is counted on: it comes back with its count.
func TestCountsStay(t *testing.T) {
	x := with(t, 2, 1, "10.0.0.0/8>1 11.0.0.0/8>2")
	hits(t, x, "10.0.0.0", "10.0.0.0", "11.0.0.0") // 3, 2
	x.Evict(written.Prefix("10.0.0.0/8"))
	x.Flush(written.Prefix("11.0.0.0/8"))
	for _, s := range []string{"11.0.0.0/8>1", "10.0.0.0/8>1"} { // 3, 4
		wantReport(t, x.Install(written.Route(s), true), "", "")
	}
	hits(t, x, "11.0.0.0") // 4, 4
	wantReport(t, x.Install(written.Route("12.0.0.0/8>3"), false), "", "10.0.0.0/8>1")
}

// An install that is refused is not counted, and uses nothing.
func TestRefusedIsNotCounted(t *testing.T) {
	x := with(t, 2, 1, "10.0.0.0/8>1 11.0.0.0/8>2")
	hits(t, x, "11.0.0.0") // 1, 2
	for range 5 {
		wantNothing(t, x.Install(written.Route("10.0.0.0/8>5"), false))
		wantNothing(t, x.Install(written.Route("10.0.0.0/9>5"), false))
		wantNothing(t, x.Install(written.Route("10.0.0.0/7>5"), true))
		wantNothing(t, x.Install(written.Route("12.0.0.0/8>5"), true))
	}
	want(t, x, "11.0.0.0/8>2 10.0.0.0/8>1")
	wantReport(t, x.Install(written.Route("12.0.0.0/8>5"), false), "", "10.0.0.0/8>1") // 12.0.0.0/8 has 1
	hits(t, x, "12.0.0.0")                                                             // 2
	wantReport(t, x.Install(written.Route("10.0.0.0/8>1"), false), "", "11.0.0.0/8>2")
}

// Counts do not go beyond 255: there they are alike.
func TestGreatCounts(t *testing.T) {
	for _, c := range []struct {
		often int
		out   string
	}{{253, "11.0.0.0/8>2"}, {254, "10.0.0.0/8>1"}, {255, "10.0.0.0/8>1"}, {300, "10.0.0.0/8>1"}} {
		x := with(t, 2, 1, "10.0.0.0/8>1 11.0.0.0/8>2")
		for range 400 {
			hits(t, x, "10.0.0.0")
		}
		for range c.often {
			hits(t, x, "11.0.0.0")
		}
		wantReport(t, x.Install(written.Route("12.0.0.0/8>3"), false), "", c.out)
	}
}

// shared is in how many rows of the sketch two prefixes are counted in one place.
func shared(p, q api.Prefix) int {
	n := 0
	for row, at := range placesOf(p) {
		if at == placesOf(q)[row] {
			n++
		}
	}
	return n
}

// The sketch has 2 rows of 64: a prefix whose two places another one has seems to be counted as often as both, and not if it is so in one row alone.
func TestCountsOfOthers(t *testing.T) {
	l := rows(1 << 16)
	for n := range 3 {
		other := slices.IndexFunc(l, func(x api.Route) bool { return x.Hop > 0 && shared(x.P, l[0].P) == n })
		apart := slices.IndexFunc(l, func(x api.Route) bool { return shared(x.P, l[0].P)+shared(x.P, l[other].P) == 0 })
		x := New(2, 1)
		x.Install(l[0], false)
		for range 3 {
			x.Hit(l[0].P.A)
		}
		x.Evict(l[0].P)
		x.Install(l[other], false) // counted once, but 5 times where both places are the first one's
		x.Install(l[apart], false)
		x.Hit(l[apart].P.A) // counted twice
		goes := l[other]
		if n == 2 {
			goes = l[apart]
		}
		wantReport(t, x.Install(written.Route("::/0>1"), false), "", written.Show(goes))
	}
}

// P13.4

func TestEvict(t *testing.T) {
	x := with(t, 5, 0, "0.0.0.0/0>1 2001:db8::/32>2 ::/128>3")
	for _, p := range written.Prefixes("0.0.0.0/1 0.0.0.0/32 128.0.0.0/1 2001:db8::/31 2001:db8::/33 2001:db8:8000::/33 2001:db9::/32 ::/0 ::/127 ::1/128 0.0.0.0/31") {
		if x.Evict(p) {
			t.Errorf("Evict(%v) is true", p)
		}
	}
	want(t, x, "::/128>3 2001:db8::/32>2 0.0.0.0/0>1")
	for _, c := range []struct{ p, left string }{
		{"2001:db8::/32", "::/128>3 0.0.0.0/0>1"},
		{"0.0.0.0/0", "::/128>3"},
		{"::/128", ""},
	} {
		if p := written.Prefix(c.p); !x.Evict(p) || x.Evict(p) {
			t.Errorf("Evict(%v)", p)
		}
		want(t, x, c.left)
	}
}

func TestFlush(t *testing.T) {
	const here = "::/128>5 2001:db8::/32>4 10.0.0.0/16>3 10.128.0.0/9>2 11.0.0.0/8>1"
	for _, c := range []struct{ p, gone, left string }{
		{"11.0.0.0/8", "11.0.0.0/8>1", "::/128>5 2001:db8::/32>4 10.0.0.0/16>3 10.128.0.0/9>2"},
		{"10.0.0.0/8", "10.0.0.0/16>3 10.128.0.0/9>2", "::/128>5 2001:db8::/32>4 11.0.0.0/8>1"},
		{"10.0.0.0/7", "10.0.0.0/16>3 10.128.0.0/9>2 11.0.0.0/8>1", "::/128>5 2001:db8::/32>4"},
		{"0.0.0.0/0", "10.0.0.0/16>3 10.128.0.0/9>2 11.0.0.0/8>1", "::/128>5 2001:db8::/32>4"},
		{"10.0.0.0/9", "10.0.0.0/16>3", "::/128>5 2001:db8::/32>4 10.128.0.0/9>2 11.0.0.0/8>1"},
		{"10.128.0.0/10", "10.128.0.0/9>2", "::/128>5 2001:db8::/32>4 10.0.0.0/16>3 11.0.0.0/8>1"},
		{"10.255.255.255/32", "10.128.0.0/9>2", "::/128>5 2001:db8::/32>4 10.0.0.0/16>3 11.0.0.0/8>1"},
		{"10.0.0.0/32", "10.0.0.0/16>3", "::/128>5 2001:db8::/32>4 10.128.0.0/9>2 11.0.0.0/8>1"},
		{"10.1.0.0/16", "", here},
		{"12.0.0.0/6", "", here},
		{"128.0.0.0/1", "", here},
		{"::/0", "::/128>5 2001:db8::/32>4", "10.0.0.0/16>3 10.128.0.0/9>2 11.0.0.0/8>1"},
		{"::/1", "::/128>5 2001:db8::/32>4", "10.0.0.0/16>3 10.128.0.0/9>2 11.0.0.0/8>1"},
		{"::/128", "::/128>5", "2001:db8::/32>4 10.0.0.0/16>3 10.128.0.0/9>2 11.0.0.0/8>1"},
		{"::1/128", "", here},
		{"2001:db8::1/128", "2001:db8::/32>4", "::/128>5 10.0.0.0/16>3 10.128.0.0/9>2 11.0.0.0/8>1"},
	} {
		x := with(t, 5, 0, "11.0.0.0/8>1 10.128.0.0/9>2 10.0.0.0/16>3 2001:db8::/32>4 ::/128>5")
		if got := written.Show(x.Flush(written.Prefix(c.p))...); got != c.gone {
			t.Errorf("Flush(%s) = %s, not %s", c.p, got, c.gone)
		}
		want(t, x, c.left)
		if l := x.Flush(written.Prefix(c.p)); len(l) > 0 {
			t.Errorf("Flush(%s) again = %v", c.p, l)
		}
		want(t, x, c.left)
	}
}

// Nothing overlaps a prefix that may not be, and none is resident.
func TestWrongPrefixes(t *testing.T) {
	x := with(t, 5, 0, "10.0.0.0/8>1 2001:db8::/32>2 0.0.0.0/8>3 ::/128>4")
	for _, p := range onpaper.Wrong() {
		if l := x.Flush(p); len(l) > 0 || x.Evict(p) {
			t.Errorf("%v flushes %v", p, l)
		}
	}
	want(t, x, "::/128>4 0.0.0.0/8>3 2001:db8::/32>2 10.0.0.0/8>1")
}

// Halves are rounded down, each time; 10.0.0.0/8 was used earlier, so that it goes where the counts are alike.
func TestTick(t *testing.T) {
	const ten, eleven = "10.0.0.0/8>1", "11.0.0.0/8>2"
	for _, c := range []struct {
		ten, eleven, ticks int
		out                string
	}{
		{2, 1, 0, eleven},     // counted 3 and 2 times
		{2, 1, 1, ten},        // 1 and 1
		{3, 1, 1, eleven},     // 2 and 1
		{3, 1, 2, eleven},     // 1 and 0
		{3, 1, 3, ten},        // 0 and 0
		{300, 126, 1, eleven}, // 127 and 63, of 255 and 127
		{300, 126, 6, eleven}, // 3 and 1
		{300, 126, 7, eleven}, // 1 and 0
		{300, 126, 8, ten},    // 0 and 0
		{300, 254, 0, ten},    // 255 and 255
	} {
		x := with(t, 2, 1, ten+" "+eleven)
		for range c.ten {
			hits(t, x, "10.0.0.0")
		}
		for range c.eleven {
			hits(t, x, "11.0.0.0")
		}
		for range c.ticks {
			x.Tick()
		}
		want(t, x, eleven+" "+ten)
		wantReport(t, x.Install(written.Route("12.0.0.0/8>3"), false), "", c.out)
	}
}

// P13.5

// wantEmpty: it is as one where there may be no resident.
func wantEmpty(t *testing.T, x *Table) {
	t.Helper()
	for range 2 { // nothing of the first time is left
		for _, y := range append(rows(3), written.Routes("0.0.0.0/0>1 ::/0>2 2001:db8::/32>3")...) {
			wantNothing(t, x.Install(y, true))
			wantNothing(t, x.Install(y, false))
			if l := x.Flush(y.P); len(l) > 0 || x.Evict(y.P) {
				t.Errorf("%v is resident", y)
			}
		}
		for _, y := range wrongRoutes() {
			wantNothing(t, x.Install(y, false))
			if l := x.Flush(y.P); len(l) > 0 || x.Evict(y.P) {
				t.Errorf("%v is resident", y)
			}
		}
		for _, a := range onpaper.Addrs() {
			if y, ok := x.Find(a); ok || y != (api.Route{}) {
				t.Errorf("Find(%v) = %v, %v", a, y, ok)
			}
			if y, ok := x.Hit(a); ok || y != (api.Route{}) {
				t.Errorf("Hit(%v) = %v, %v", a, y, ok)
			}
		}
		x.Tick()
		want(t, x, "")
		if n, most := x.Size(); n != 0 || most != 0 {
			t.Errorf("Size = %d, %d", n, most)
		}
	}
}

func TestNotMadeByNew(t *testing.T) {
	var none *Table
	wantEmpty(t, none)
	wantEmpty(t, new(Table))
	wantEmpty(t, &Table{policy: 1})
	wantEmpty(t, New(0, 0))
}

// P13.6, and all promises by the model

// worlds are pairs of small worlds, of one kind and of both.
func worlds() [][2]onpaper.World {
	l := onpaper.Worlds()
	return [][2]onpaper.World{{l[0], l[1]}, {l[0], l[2]}, {l[1], l[3]}, {l[3], l[4]}, {l[2], l[4]}, {l[1], l[4]}}
}

func TestRandom(t *testing.T) {
	mix := onpaper.Mixer(13)
	for _, w := range worlds() {
		prefixes := slices.Concat(w[0].Prefixes(), w[1].Prefixes(), onpaper.Wrong()[:3])
		addrs := slices.Concat(w[0].Addrs(), w[1].Addrs())
		for _, most := range []int{-1, 0, 1, 2, 3, 5, 8, 40} {
			for _, policy := range []int{0, 1, 2} {
				c := newPair(t, most, policy)
				for range 300 {
					c.step(&mix, prefixes, addrs)
				}
				c.findAll(addrs)
			}
		}
	}
}

// Many prefixes that are apart, so that many go, and their counts fall in places of others.
func TestManyPrefixes(t *testing.T) {
	mix := onpaper.Mixer(7)
	for _, most := range []int{3, 12, 30} {
		for _, policy := range []int{0, 1} {
			c := newPair(t, most, policy)
			var prefixes []api.Prefix
			var addrs []api.Addr
			for range 300 {
				p := onpaper.Cut(uint64(mix.Below(1<<12))<<52, 0, 10+mix.Below(3), mix.Below(2) == 0)
				prefixes, addrs = append(prefixes, p), append(addrs, p.A)
			}
			for range 2000 {
				c.step(&mix, prefixes, addrs)
			}
		}
	}
}

// A table of the greatest size, whose places are used again and again.
func TestGreat(t *testing.T) {
	mix := onpaper.Mixer(5)
	l := rows(1100)
	for _, policy := range []int{0, 1} {
		c := newPair(t, math.MaxInt, policy)
		for k := range 2600 {
			x := l[mix.Below(len(l))]
			switch {
			case k < len(l):
				c.install(l[k], false)
			case k%7 == 0:
				c.evict(x.P)
			case k%3 == 0:
				c.hit(x.P.A)
			default:
				c.install(x, k%5 == 0)
			}
		}
		c.same()
	}
}

// Residents are found by each of their addresses until they are told to go, and no longer.
func TestFoundUntilItGoes(t *testing.T) {
	mix := onpaper.Mixer(3)
	for _, policy := range []int{0, 1} {
		for _, w := range worlds() {
			prefixes := slices.Concat(w[0].Prefixes(), w[1].Prefixes())
			x, here := New(6, policy), onpaper.Routes{}
			for range 400 {
				y := api.Route{P: prefixes[mix.Below(len(prefixes))], Hop: mix.Below(9)}
				var gone []api.Route
				switch mix.Below(6) {
				case 0:
					if x.Evict(y.P) {
						gone = []api.Route{{P: y.P, Hop: here[y.P]}}
					}
				case 1:
					gone = x.Flush(y.P)
				default:
					r := x.Install(y, false)
					gone = slices.Concat(r.Absorbed, r.Out)
					if r.In {
						here[y.P] = y.Hop
					}
				}
				for _, z := range gone {
					if hop, ok := here[z.P]; !ok || hop != z.Hop {
						t.Errorf("%v goes, and was not there", z)
					}
					delete(here, z.P)
				}
				if n, most := x.Size(); n != len(here) || n > most || !slices.Equal(x.All(), here.All()) {
					t.Errorf("%v, not %v", x.All(), here.All())
				}
				for _, z := range here.All() {
					first, last := prefix.Ends(z.P)
					for _, a := range []api.Addr{first, last} {
						if u, ok := x.Find(a); !ok || u != z {
							t.Errorf("Find(%v) = %v, %v, not %v", a, u, ok, z)
						}
					}
				}
			}
		}
	}
}

// What was answered

// What was answered stays as it was, whatever is called later, and what is done with it changes no table.
func TestAnswersAreNew(t *testing.T) {
	x := with(t, 4, 0, "10.0.0.0/8>1 11.0.0.0/8>2 12.0.0.0/8>3 ::/0>4")
	out := x.Install(written.Route("13.0.0.0/8>5"), false).Out
	absorbed := x.Install(written.Route("10.0.0.0/7>6"), false).Absorbed
	all, order := x.All(), x.Order()
	flushed := x.Flush(written.Prefix("12.0.0.0/7"))
	for _, y := range rows(9) {
		x.Install(y, false)
	}
	for _, c := range []struct {
		got  []api.Route
		want string
	}{{out, "10.0.0.0/8>1"}, {absorbed, "11.0.0.0/8>2"}, {all, "10.0.0.0/7>6 12.0.0.0/8>3 13.0.0.0/8>5 ::/0>4"}, {flushed, "12.0.0.0/8>3 13.0.0.0/8>5"}} {
		if got := written.Show(c.got...); got != c.want {
			t.Errorf("%s, not %s", got, c.want)
		}
	}
	if !slices.Equal(order, written.Prefixes("10.0.0.0/7 13.0.0.0/8 ::/0 12.0.0.0/8")) {
		t.Error(order)
	}
	before := x.All()
	clear(x.All())
	clear(x.Order())
	clear(flushed)
	if got := x.All(); !slices.Equal(got, before) || len(got) != 4 {
		t.Errorf("All = %v, not %v", got, before)
	}
}

// What one table does is nothing to another one.
func TestTablesApart(t *testing.T) {
	x, y := New(2, 1), New(2, 1)
	x.Install(written.Route("10.0.0.0/8>1"), false)
	want(t, y, "")
	y.Install(written.Route("11.0.0.0/8>1"), false)
	hits(t, x, "10.0.0.0", "10.0.0.1")
	y.Install(written.Route("10.0.0.0/8>2"), false) // counted once here
	hits(t, y, "11.0.0.0")
	wantReport(t, y.Install(written.Route("12.0.0.0/8>3"), false), "", "10.0.0.0/8>2")
	want(t, x, "10.0.0.0/8>1")
}
