package cover

import (
	"math"
	"math/big"
	"slices"
	"strconv"
	"strings"
	"testing"

	"kedge/api"
	"kedge/onpaper"
	"kedge/rib"
	"kedge/text"
	"kedge/written"
)

// The tests hold the package against pieces written out by hand, and against a model that seeks the blocks from the routes' side, digits written out as text.

// some are routes of both kinds: of no digits in the short kind alone, of all digits, one in another, and one to hop 0 in one to another hop.
const some = "0.0.0.0/0>9 10.0.0.0/8>1 10.1.0.0/16>0 10.1.2.3/32>2 128.0.0.0/1>3 " +
	"2001:db8::/32>4 2001:db8:0:1::/64>0 2001:db8::1/128>65535 8000::/1>1"

// with is a Rib of these routes, and the model of it.
func with(t *testing.T, s string) (*rib.Rib, onpaper.Routes) {
	t.Helper()
	return filled(t, written.Routes(s)...)
}

func filled(t *testing.T, l ...api.Route) (*rib.Rib, onpaper.Routes) {
	t.Helper()
	r, m := rib.New(api.MaxRoutes, api.MaxHop+1), onpaper.Routes{}
	for _, x := range l {
		if e := r.Add(x.P, x.Hop); e != api.OK {
			t.Fatal(x, e)
		}
		m[x.P] = x.Hop
	}
	return r, m
}

// strange are those that were not made by New.
func strange() map[string]*rib.Rib { return map[string]*rib.Rib{"nil": nil, "zero": {}} }

// list is pieces as they are written: a prefix alone has no route, and Hop 0; > and a hop is one that has a route, - and a hop one that has none, but a Hop.
func list(s string) []Piece {
	var l []Piece
	for _, f := range strings.Fields(s) {
		if p, hop, ok := strings.Cut(f, "-"); ok {
			x := written.Route(p + ">" + hop)
			l = append(l, Piece{P: x.P, Hop: x.Hop})
		} else if strings.Contains(f, ">") {
			x := written.Route(f)
			l = append(l, Piece{P: x.P, Hop: x.Hop, Routed: true})
		} else {
			l = append(l, Piece{P: written.Prefix(f)})
		}
	}
	return l
}

// show is pieces as list reads them.
func show(l ...Piece) string {
	var parts []string
	for _, x := range l {
		s := text.Print(x.P)
		if x.Routed {
			s += ">" + strconv.Itoa(x.Hop)
		} else if x.Hop != 0 {
			s += "-" + strconv.Itoa(x.Hop)
		}
		parts = append(parts, s)
	}
	return strings.Join(parts, " ")
}

// want is Pieces, in the model.
func want(m onpaper.Routes, p api.Prefix) []Piece {
	var l []Piece
	for _, q := range m.Blocks(p) {
		x, ok := m.Governs(q)
		l = append(l, Piece{P: q, Hop: x.Hop, Routed: ok})
	}
	return l
}

// wantAll: the pieces of a prefix are these, and are told so by Count and by Pieces, which tells the first of them where it may not tell them all.
func wantAll(t *testing.T, r *rib.Rib, p api.Prefix, all []Piece) {
	t.Helper()
	if n := Count(r, p); n != len(all) {
		t.Errorf("Count(%s) = %d, not %d", text.Print(p), n, len(all))
	}
	for _, most := range []int{math.MinInt, -1, 0, 1, 2, len(all) - 1, len(all), len(all) + 1, 4096, 4097, math.MaxInt} {
		n := min(max(most, 0), len(all))
		if l, ok := Pieces(r, p, most); !slices.Equal(l, all[:n]) || ok != (n == len(all)) {
			t.Errorf("Pieces(%s, %d) = %s, %v, not the first %d of %s", text.Print(p), most, show(l...), ok, n, show(all...))
		}
	}
}

// P8.1

func TestPieces(t *testing.T) {
	for _, c := range []struct{ routes, p, want string }{
		{"", "0.0.0.0/0", "0.0.0.0/0"}, // no route at all
		{"", "::/0", "::/0"},
		{"", "10.1.2.3/32", "10.1.2.3/32"},
		{"", "2001:db8::1/128", "2001:db8::1/128"},
		{"0.0.0.0/0>1", "0.0.0.0/0", "0.0.0.0/0>1"}, // none is inside of itself
		{"::/0>1", "::/0", "::/0>1"},
		{"0.0.0.0/0>1", "::/0", "::/0"}, // the other kind alone
		{"::/0>1 2001:db8::/32>2", "32.0.0.0/8", "32.0.0.0/8"},
		{"10.0.0.0/8>1", "10.1.0.0/16", "10.1.0.0/16>1"}, // it governs, from above
		{"10.0.0.0/8>1", "10.1.2.3/32", "10.1.2.3/32>1"},
		{"10.0.0.0/8>1", "11.0.0.0/8", "11.0.0.0/8"},
		{"2001:db8::/32>1", "2001:db8:7::/48", "2001:db8:7::/48>1"},
		{"10.0.0.0/8>0", "10.0.0.0/8", "10.0.0.0/8>0"}, // a route to hop 0 is one
		{"128.0.0.0/1>1", "0.0.0.0/0", "0.0.0.0/1 128.0.0.0/1>1"},
		{"0.0.0.0/1>1", "0.0.0.0/0", "0.0.0.0/1>1 128.0.0.0/1"},
		{"8000::/1>65535", "::/0", "::/1 8000::/1>65535"},
		{"0.0.0.0/0>2 0.0.0.0/1>1", "0.0.0.0/0", "0.0.0.0/1>1 128.0.0.0/1>2"},
		{"0.0.0.0/0>2 0.0.0.0/1>2", "0.0.0.0/0", "0.0.0.0/1>2 128.0.0.0/1>2"}, // it matters not that both go one way
		{"64.0.0.0/3>1", "0.0.0.0/0", "0.0.0.0/2 64.0.0.0/3>1 96.0.0.0/3 128.0.0.0/1"},
		{"64.0.0.0/3>1", "0.0.0.0/1", "0.0.0.0/2 64.0.0.0/3>1 96.0.0.0/3"},
		{"64.0.0.0/3>1", "64.0.0.0/2", "64.0.0.0/3>1 96.0.0.0/3"},
		{"64.0.0.0/3>1", "64.0.0.0/3", "64.0.0.0/3>1"},
		{"64.0.0.0/3>1", "0.0.0.0/2", "0.0.0.0/2"},
		{"10.1.2.3/32>1", "10.1.2.0/30", "10.1.2.0/31 10.1.2.2/32 10.1.2.3/32>1"}, // all digits
		{"10.1.2.0/32>1", "10.1.2.0/30", "10.1.2.0/32>1 10.1.2.1/32 10.1.2.2/31"},
		{"10.1.2.0/24>7 10.1.2.2/32>1", "10.1.2.0/30", "10.1.2.0/31>7 10.1.2.2/32>1 10.1.2.3/32>7"},
		{"10.1.2.3/32>1", "10.1.2.3/32", "10.1.2.3/32>1"},
		{"2001:db8::1/128>1", "2001:db8::/126", "2001:db8::/128 2001:db8::1/128>1 2001:db8::2/127"},
		{"2001:db8::/32>2 2001:db8::1/128>1", "2001:db8::/127", "2001:db8::/128>2 2001:db8::1/128>1"},
		{"::/65>1", "::/63", "::/65>1 ::8000:0:0:0/65 0:0:0:1::/64"},                                                               // where the first word ends
		{"10.0.0.0/8>1 10.64.0.0/10>2 10.64.0.0/11>3", "10.0.0.0/8", "10.0.0.0/10>1 10.64.0.0/11>3 10.96.0.0/11>2 10.128.0.0/9>1"}, // one in another
		{"0.0.0.0/2>1 64.0.0.0/2>2 128.0.0.0/2>3 192.0.0.0/2>4", "0.0.0.0/0", "0.0.0.0/2>1 64.0.0.0/2>2 128.0.0.0/2>3 192.0.0.0/2>4"},
		{"255.255.255.255/32>1", "255.255.255.252/30", "255.255.255.252/31 255.255.255.254/32 255.255.255.255/32>1"},
	} {
		r, _ := with(t, c.routes)
		p, all := written.Prefix(c.p), list(c.want)
		if l, ok := Pieces(r, p, 99); show(l...) != c.want || !ok {
			t.Errorf("with %s: Pieces(%s) = %s, %v, not %s", c.routes, c.p, show(l...), ok, c.want)
		}
		wantAll(t, r, p, all)
	}
}

// One route of each length: one more piece than it has digits more than p.
func TestPiecesAtEachLength(t *testing.T) {
	for _, v6 := range []bool{false, true} {
		hi, lo := uint64(0xC1A3957B0D2F4E68), uint64(0x9D5B7F31E2C48A61)
		for n := 0; n <= onpaper.Width(v6); n++ {
			r, m := filled(t, api.Route{P: onpaper.Cut(hi, lo, n, v6), Hop: n})
			for _, k := range []int{0, 1, n / 2, n - 1, n, n + 1, onpaper.Width(v6)} {
				p := onpaper.Cut(hi, lo, min(max(k, 0), onpaper.Width(v6)), v6)
				if c := Count(r, p); c != max(n-p.N, 0)+1 {
					t.Errorf("with one of %d digits: Count of one of %d is %d", n, p.N, c)
				}
				wantAll(t, r, p, want(m, p))
			}
		}
	}
}

func TestPiecesStopEarly(t *testing.T) {
	r, _ := with(t, "128.0.0.0/2>1 160.0.0.0/3>2 192.0.0.0/2>1")
	all := list("0.0.0.0/1 128.0.0.0/3>1 160.0.0.0/3>2 192.0.0.0/2>1")
	for _, c := range []struct {
		most, n int
		ok      bool
	}{{math.MinInt, 0, false}, {-1, 0, false}, {0, 0, false}, {1, 1, false}, {3, 3, false}, {4, 4, true}, {5, 4, true}, {4096, 4, true}, {4097, 4, true}, {math.MaxInt, 4, true}} {
		if l, ok := Pieces(r, api.Prefix{}, c.most); !slices.Equal(l, all[:c.n]) || ok != c.ok {
			t.Errorf("Pieces of 4, %d at the most: %s, %v", c.most, show(l...), ok)
		}
	}
	if n := Count(r, api.Prefix{}); n != 4 {
		t.Error(n)
	}
}

// even is routes of all prefixes of so many digits, in order.
func even(digits int, v6 bool) []api.Route {
	var l []api.Route
	for k := range 1 << digits {
		l = append(l, api.Route{P: onpaper.Cut(uint64(k)<<(64-digits), 0, digits, v6), Hop: k})
	}
	return l
}

// About 4096 pieces: so many are told, but no more, whatever is asked for.
func TestPiecesAtTheBound(t *testing.T) {
	for _, v6 := range []bool{false, true} {
		routes := even(12, v6)
		p := api.Prefix{A: api.Addr{V6: v6}}
		r, _ := filled(t, routes...)
		for _, most := range []int{4095, 4096, 4097, 100000, math.MaxInt} {
			l, ok := Pieces(r, p, most)
			if len(l) != min(most, 4096) || ok != (most >= 4096) {
				t.Errorf("Pieces of 4096, %d at the most: %d, %v", most, len(l), ok)
			}
			for i, x := range l {
				if x != (Piece{P: routes[i].P, Hop: i, Routed: true}) {
					t.Fatalf("the %d-th is %s", i, show(x))
				}
			}
		}
		if n := Count(r, p); n != 4096 {
			t.Errorf("Count = %d", n)
		}
		routes[4095].P.N++ // the last block is two
		r, _ = filled(t, routes...)
		for _, most := range []int{4095, 4096, 4097, 100000, math.MaxInt} {
			if l, ok := Pieces(r, p, most); len(l) != min(most, 4096) || ok {
				t.Errorf("Pieces of 4097, %d at the most: %d, %v", most, len(l), ok)
			}
		}
		if n := Count(r, p); n != 4097 {
			t.Errorf("Count = %d", n)
		}
	}
}

// bushy is 1024 routes, one for each 10 first digits, with so many digits more in all: as many blocks as there are of 10 digits, and one more for each digit more.
func bushy(more int) []api.Route {
	l := even(10, true)
	for i := range l {
		l[i].P.N += more / len(l)
		if i < more%len(l) {
			l[i].P.N++
		}
	}
	return l
}

func TestCountAtTheBound(t *testing.T) {
	for n, told := range map[int]int{99999: 99999, 100000: 100000, 100001: 100000, 100002: 100000, 120000: 100000} {
		r, _ := filled(t, bushy(n-1024)...)
		if c := Count(r, written.Prefix("::/0")); c != told {
			t.Errorf("Count of %d = %d, not %d", n, c, told)
		}
		if l, ok := Pieces(r, written.Prefix("::/0"), n); len(l) != 4096 || ok {
			t.Errorf("Pieces of %d: %d, %v", n, len(l), ok)
		}
	}
}

func TestPrefixThatMayNotBe(t *testing.T) {
	r, _ := with(t, some+" ::/0>1")
	for _, p := range onpaper.Wrong() {
		for _, most := range []int{math.MinInt, -1, 0, 1, 4096, math.MaxInt} {
			if l, ok := Pieces(r, p, most); len(l) != 0 || !ok {
				t.Errorf("Pieces(%v, %d) = %v, %v", p, most, l, ok)
			}
		}
		if n := Count(r, p); n != 0 {
			t.Errorf("Count(%v) = %d", p, n)
		}
	}
}

// It is as one without routes: each prefix that may be is one piece, which none governs.
func TestRibNotMadeByNew(t *testing.T) {
	for name, r := range strange() {
		t.Run(name, func(t *testing.T) {
			for _, p := range written.Prefixes("0.0.0.0/0 ::/0 10.0.0.0/8 10.1.2.3/32 2001:db8::/32 2001:db8::1/128") {
				wantAll(t, r, p, []Piece{{P: p}})
			}
			for _, p := range onpaper.Wrong() {
				wantAll(t, r, p, nil)
			}
		})
	}
}

// P8.2

func TestSqueeze(t *testing.T) {
	for _, c := range []struct{ l, want string }{
		{"", ""},
		{"10.0.0.0/9>1", "10.0.0.0/9>1"}, // one
		{"10.0.0.0/9", "10.0.0.0/9"},
		{"10.0.0.0/9>1 10.128.0.0/9>1", "10.0.0.0/8>1"}, // two that are one
		{"10.0.0.0/9>0 10.128.0.0/9>0", "10.0.0.0/8>0"},
		{"10.0.0.0/9 10.128.0.0/9", "10.0.0.0/8"},
		{"10.0.0.0/9-5 10.128.0.0/9-5", "10.0.0.0/8-5"},
		{"0.0.0.0/1>1 128.0.0.0/1>1", "0.0.0.0/0>1"},
		{"10.1.2.2/32>1 10.1.2.3/32>1", "10.1.2.2/31>1"},
		{"::/1>65535 8000::/1>65535", "::/0>65535"},
		{"2001:db8::/33>1 2001:db8:8000::/33>1", "2001:db8::/32>1"},
		{"2001:db8::/128>1 2001:db8::1/128>1", "2001:db8::/127>1"},
		{"::/64 0:0:0:1::/64", "::/63"},
		{"::/65>1 ::8000:0:0:0/65>1", "::/64>1"},
		{"10.128.0.0/9>1 10.0.0.0/9>1", "10.128.0.0/9>1 10.0.0.0/9>1"}, // the right one first
		{"8000::/1 ::/1", "8000::/1 ::/1"},
		{"10.128.0.0/9>1 11.0.0.0/9>1", "10.128.0.0/9>1 11.0.0.0/9>1"}, // one behind the other, but of two parents
		{"10.0.0.0/9>1 11.0.0.0/9>1", "10.0.0.0/9>1 11.0.0.0/9>1"},
		{"10.0.0.0/9>1 10.0.0.0/9>1", "10.0.0.0/9>1 10.0.0.0/9>1"}, // the same one twice
		{"10.0.0.0/9>1 10.128.0.0/10>1", "10.0.0.0/9>1 10.128.0.0/10>1"},
		{"10.0.0.0/8>1 10.128.0.0/9>1", "10.0.0.0/8>1 10.128.0.0/9>1"},
		{"10.0.0.0/10>1 10.128.0.0/9>1", "10.0.0.0/10>1 10.128.0.0/9>1"},
		{"0.0.0.0/0>1 0.0.0.0/0>1", "0.0.0.0/0>1 0.0.0.0/0>1"}, // no digit, so no sibling
		{"0.0.0.0/0>1 ::/0>1", "0.0.0.0/0>1 ::/0>1"},
		{"0.0.0.0/1>1 8000::/1>1", "0.0.0.0/1>1 8000::/1>1"}, // of two kinds
		{"10.0.0.0/9>1 10.128.0.0/9>2", "10.0.0.0/9>1 10.128.0.0/9>2"},
		{"10.0.0.0/9>1 10.128.0.0/9-1", "10.0.0.0/9>1 10.128.0.0/9-1"},
		{"10.0.0.0/9-1 10.128.0.0/9>1", "10.0.0.0/9-1 10.128.0.0/9>1"},
		{"10.0.0.0/9>0 10.128.0.0/9", "10.0.0.0/9>0 10.128.0.0/9"}, // a route to hop 0, and none
		{"10.0.0.0/9-1 10.128.0.0/9-2", "10.0.0.0/9-1 10.128.0.0/9-2"},
		{"::/1>1 8000::/1>2", "::/1>1 8000::/1>2"},
		{"10.0.0.0/9>1 11.0.0.0/8>1 10.128.0.0/9>1", "10.0.0.0/9>1 11.0.0.0/8>1 10.128.0.0/9>1"}, // not side by side
		{"10.0.0.0/9>1 11.0.0.0/9>1 11.128.0.0/9>1 10.128.0.0/9>1", "10.0.0.0/9>1 11.0.0.0/8>1 10.128.0.0/9>1"},
		{"10.0.0.0/9>1 10.0.0.0/9>1 10.128.0.0/9>1", "10.0.0.0/9>1 10.0.0.0/8>1"},
		{"10.0.0.0/9>1 10.128.0.0/9>1 10.128.0.0/9>1", "10.0.0.0/8>1 10.128.0.0/9>1"},
		{"10.0.0.0/10>1 10.64.0.0/10>1 10.128.0.0/9>1", "10.0.0.0/8>1"},  // step by step, to the right
		{"10.0.0.0/9>1 10.128.0.0/10>1 10.192.0.0/10>1", "10.0.0.0/8>1"}, // and to the left
		{"10.0.0.0/10>1 10.64.0.0/10>1 10.128.0.0/10>1 10.192.0.0/10>1", "10.0.0.0/8>1"},
		{"10.0.0.0/10>1 10.64.0.0/10>1 10.128.0.0/10>2 10.192.0.0/10>2", "10.0.0.0/9>1 10.128.0.0/9>2"},
		{"10.0.0.0/10>1 10.64.0.0/10>2 10.128.0.0/10>2 10.192.0.0/10>2", "10.0.0.0/10>1 10.64.0.0/10>2 10.128.0.0/9>2"},
		{"0.0.0.0/1>1 128.0.0.0/2>1 192.0.0.0/3>1 224.0.0.0/4>1 240.0.0.0/4>1", "0.0.0.0/0>1"},
		{"0.0.0.0/4>1 16.0.0.0/4>1 32.0.0.0/3>1 64.0.0.0/2>1 128.0.0.0/1>1", "0.0.0.0/0>1"},
		{"::/2 4000::/3 6000::/3 8000::/1", "::/0"},
		{"0.0.0.0/1>1 128.0.0.0/1>1 ::/1>1 8000::/1>1", "0.0.0.0/0>1 ::/0>1"},
		{"20.0.0.0/8>1 21.0.0.0/8>1 10.0.0.0/9 10.128.0.0/9", "20.0.0.0/7>1 10.0.0.0/8"}, // in no order
		{"64.0.0.0/2>1 0.0.0.0/3>1 32.0.0.0/3>1 64.0.0.0/2>1", "64.0.0.0/2>1 0.0.0.0/1>1"},
	} {
		if s := show(Squeeze(list(c.l))...); s != c.want {
			t.Errorf("Squeeze(%s) = %s, not %s", c.l, s, c.want)
		}
	}
	if l := Squeeze([]Piece{}); len(l) != 0 {
		t.Error(l)
	}
}

// At each digit of an address: with its sibling it is one, of their parent, and all of them together are one.
func TestSqueezeAtEachLength(t *testing.T) {
	for _, v6 := range []bool{false, true} {
		var all []api.Prefix
		for n := 1; n <= onpaper.Width(v6); n++ {
			up := onpaper.Cut(0xC1A3957B0D2F4E68, 0x9D5B7F31E2C48A61, n-1, v6)
			left, right := up, api.Prefix{A: onpaper.Flip(up.A, n-1), N: n}
			left.N = n
			x, y := Piece{P: left, Hop: n, Routed: true}, Piece{P: right, Hop: n, Routed: true}
			if l := Squeeze([]Piece{x, y}); !slices.Equal(l, []Piece{{P: up, Hop: n, Routed: true}}) {
				t.Errorf("Squeeze(%s) = %s", show(x, y), show(l...))
			}
			if l := Squeeze([]Piece{y, x}); !slices.Equal(l, []Piece{y, x}) {
				t.Errorf("Squeeze(%s) = %s", show(y, x), show(l...))
			}
			all = append(all, left, right)
		}
		end := all[len(all)-1].A
		all = slices.DeleteFunc(all, func(p api.Prefix) bool { return p.N < onpaper.Width(v6) && onpaper.Contains(p, end) })
		slices.SortFunc(all, onpaper.Compare)
		var l []Piece
		for _, p := range all {
			l = append(l, Piece{P: p, Hop: 3})
		}
		if got := Squeeze(l); len(l) != onpaper.Width(v6)+1 || !slices.Equal(got, []Piece{{P: api.Prefix{A: api.Addr{V6: v6}}, Hop: 3}}) {
			t.Errorf("Squeeze(%s) = %s", show(l...), show(got...))
		}
	}
}

// Hops of any kind are alike, or not.
func TestSqueezeHopsOutOfRange(t *testing.T) {
	left, right := written.Prefix("10.0.0.0/9"), written.Prefix("10.128.0.0/9")
	for _, hop := range []int{math.MinInt, -1, 65536, math.MaxInt} {
		if l := Squeeze([]Piece{{left, hop, true}, {right, hop, true}}); !slices.Equal(l, []Piece{{written.Prefix("10.0.0.0/8"), hop, true}}) {
			t.Error(hop, l)
		}
		if l := Squeeze([]Piece{{left, hop, true}, {right, hop ^ 65536, true}}); len(l) != 2 {
			t.Error(hop, l)
		}
	}
}

// A prefix that may not be is no sibling, and stays as it is.
func TestSqueezePrefixThatMayNotBe(t *testing.T) {
	for _, p := range onpaper.Wrong() {
		x := Piece{P: p, Hop: 1, Routed: true}
		for _, y := range list("0.0.0.0/0>1 128.0.0.0/1>1 0.0.0.0/1>1 10.0.0.0/8>1 11.0.0.0/8>1 10.129.2.2/32>1 ::/0>1 8000::/1>1 2001:db8::/128>1 2001:db9::/32>1") {
			for _, l := range [][]Piece{{x, y}, {y, x}, {x, x}, {x, y, x}} {
				if got := Squeeze(l); !slices.Equal(got, l) {
					t.Errorf("Squeeze(%v) = %v", l, got)
				}
			}
		}
		z := list("10.0.0.0/9>1 10.128.0.0/9>1")
		if got := Squeeze([]Piece{x, z[0], z[1], x}); !slices.Equal(got, []Piece{x, list("10.0.0.0/8>1")[0], x}) {
			t.Errorf("Squeeze about %v = %v", p, got)
		}
	}
	short := api.Addr{Hi: 1 << 63, Lo: 1} // as a sibling, but for digits that a short address does not have
	l := []Piece{{P: api.Prefix{N: 1}}, {P: api.Prefix{A: short, N: 1}}}
	if got := Squeeze(l); !slices.Equal(got, l) {
		t.Error(got)
	}
}

func TestAt(t *testing.T) {
	l := list("10.1.0.0/16>1 10.0.0.0/8>2 10.1.2.0/24>3 11.0.0.0/8 2001:db8::/32>4 2001:db8::1/128>5 255.255.255.255/32>6 10.0.0.0/8>7")
	for _, c := range []struct{ a, want string }{
		{"10.1.2.3", "10.1.0.0/16>1"}, // of three the first one, which is neither the shortest nor the longest
		{"10.1.0.0", "10.1.0.0/16>1"},
		{"10.1.255.255", "10.1.0.0/16>1"},
		{"10.2.0.0", "10.0.0.0/8>2"},
		{"10.255.255.255", "10.0.0.0/8>2"},
		{"11.0.0.0", "11.0.0.0/8"}, // one without a route is told as others are
		{"2001:db8::1", "2001:db8::/32>4"},
		{"2001:db8:ffff:ffff:ffff:ffff:ffff:ffff", "2001:db8::/32>4"},
		{"255.255.255.255", "255.255.255.255/32>6"},
	} {
		if x, ok := At(l, written.Addr(c.a)); !ok || show(x) != c.want {
			t.Errorf("At(%s) = %s, %v, not %s", c.a, show(x), ok, c.want)
		}
	}
	for _, a := range []string{"9.255.255.255", "12.0.0.0", "0.0.0.0", "255.255.255.254", "32.1.13.184", "2001:db7:ffff::", "2001:db9::", "::", "a01::"} {
		if x, ok := At(l, written.Addr(a)); ok || x != (Piece{}) {
			t.Errorf("At(%s) = %s, %v", a, show(x), ok)
		}
	}
	for _, none := range [][]Piece{nil, {}} {
		if x, ok := At(none, written.Addr("10.1.2.3")); ok || x != (Piece{}) {
			t.Error(x, ok)
		}
	}
}

// Digits that a short address does not have are not looked at; a prefix that may not be contains nothing.
func TestAtWhatMayNotBe(t *testing.T) {
	l := list("10.1.2.3/32>1 10.1.2.0/24>2 ::/0>3")
	for _, a := range []api.Addr{{Hi: 0x0A01020300000001}, {Hi: 0x0A010203 << 32, Lo: 1 << 63}, {Hi: 0x0A010203FFFFFFFF, Lo: math.MaxUint64}} {
		if x, ok := At(l, a); !ok || x != l[0] {
			t.Errorf("At(%v) = %s, %v", a, show(x), ok)
		}
	}
	for _, p := range onpaper.Wrong() {
		if x, ok := At([]Piece{{P: p, Hop: 1, Routed: true}}, p.A); ok || x != (Piece{}) {
			t.Errorf("At(%v) = %v, %v", p, x, ok)
		}
		all := Piece{P: api.Prefix{A: api.Addr{V6: p.A.V6}}, Hop: 2}
		if x, ok := At([]Piece{{P: p, Hop: 1, Routed: true}, all}, p.A); !ok || x != all {
			t.Errorf("At(%v) = %v, %v", p, x, ok)
		}
	}
}

// P8.3

// size is how many addresses a prefix has.
func size(p api.Prefix) *big.Int {
	return new(big.Int).Lsh(big.NewInt(1), uint(onpaper.Width(p.A.V6)-p.N))
}

// wantWhole: pieces are in order, apart, and as many addresses as p has are in them.
func wantWhole(t *testing.T, p api.Prefix, l []Piece) {
	t.Helper()
	sum := new(big.Int)
	for i, x := range l {
		sum.Add(sum, size(x.P))
		if !onpaper.Covers(p, x.P) {
			t.Errorf("%s is not of %s", show(x), text.Print(p))
		}
		for _, y := range l[i+1:] {
			if onpaper.Covers(x.P, y.P) || onpaper.Covers(y.P, x.P) || onpaper.Compare(x.P, y.P) >= 0 {
				t.Errorf("%s and %s are not apart, or in no order", show(x), show(y))
			}
		}
	}
	if sum.Cmp(size(p)) != 0 {
		t.Errorf("%s is not all of %s", show(l...), text.Print(p))
	}
}

// wantWays: each address of p is in one piece, which goes its way; no other one is in any.
func wantWays(t *testing.T, m onpaper.Routes, p api.Prefix, l []Piece, addrs []api.Addr) {
	t.Helper()
	for _, a := range addrs {
		x, ok := At(l, a)
		if ok != onpaper.Contains(p, a) {
			t.Errorf("%v is in one of %s: %v", a, show(l...), ok)
		}
		if route, routed := m.Longest(a); ok && (!onpaper.Contains(x.P, a) || x.Hop != route.Hop || x.Routed != routed) {
			t.Errorf("%v is in %s, but goes by %v, %v", a, show(x), route, routed)
		}
	}
}

// oneWay: do all of l that p covers go one way?
func oneWay(p api.Prefix, l []Piece) bool {
	var first *Piece
	for _, x := range l {
		if !onpaper.Covers(p, x.P) {
			continue
		}
		if first == nil {
			first = &x
		}
		if x.Hop != first.Hop || x.Routed != first.Routed {
			return false
		}
	}
	return true
}

// wantFewest: all that is in a squeezed one goes one way, and not all that is in its parent, if that is of p too.
func wantFewest(t *testing.T, p api.Prefix, l, squeezed []Piece) {
	t.Helper()
	for _, x := range squeezed {
		if !oneWay(x.P, l) {
			t.Errorf("not all of %s goes one way", show(x))
		}
		if x.P.N > p.N && oneWay(onpaper.Cut(x.P.A.Hi, x.P.A.Lo, x.P.N-1, x.P.A.V6), l) {
			t.Errorf("%s could be wider", show(x))
		}
	}
}

func TestWhatFollows(t *testing.T) {
	mix := onpaper.Mixer(8)
	for _, w := range onpaper.Worlds() {
		for range 12 {
			r, m := filled(t, w.Routes(&mix)...)
			for _, p := range w.Prefixes() {
				l, ok := Pieces(r, p, math.MaxInt)
				if !ok || !slices.Equal(l, want(m, p)) || Count(r, p) != len(l) {
					t.Errorf("Pieces(%s) = %s, %v", text.Print(p), show(l...), ok)
				}
				wantWhole(t, p, l)
				wantWays(t, m, p, l, w.Addrs())
				squeezed := Squeeze(l)
				wantWhole(t, p, squeezed)
				wantWays(t, m, p, squeezed, w.Addrs())
				wantFewest(t, p, l, squeezed)
			}
			if t.Failed() {
				t.Fatalf("with %s", written.Show(m.All()...))
			}
		}
	}
}

// What is told is what there is then, while routes of both kinds come and go.
func TestWhileRoutesComeAndGo(t *testing.T) {
	mix := onpaper.Mixer(88)
	r, m := filled(t)
	l := written.Prefixes("0.0.0.0/0 128.0.0.0/1 10.0.0.0/8 10.1.0.0/16 10.1.2.0/24 10.1.2.3/32 10.1.2.2/32 11.0.0.0/8 0.0.0.0/32 255.255.255.255/32 " +
		"::/0 8000::/1 2001:db8::/32 2001:db8::/33 2001:db9::/32 2001:db8::/64 2001:db8::/65 2001:db8::1/128 ::/128 a01::/16")
	for range 60 {
		p := l[mix.Below(len(l))]
		if _, ok := m[p]; ok {
			r.Withdraw(p)
			delete(m, p)
		} else {
			hop := mix.Below(4)
			r.Add(p, hop)
			m[p] = hop
		}
		for _, q := range []api.Prefix{p, {A: api.Addr{V6: p.A.V6}}, l[mix.Below(len(l))]} {
			all := want(m, q)
			wantAll(t, r, q, all)
			wantWays(t, m, q, Squeeze(all), onpaper.Addrs())
		}
	}
}

// What is handed in stays as it was, also behind its end; what is answered is memory of its own.
func TestHandedInStays(t *testing.T) {
	l := list("10.0.0.0/10>1 10.64.0.0/10>1 10.128.0.0/9>1 11.0.0.0/8>1 12.0.0.0/8>2")
	was := slices.Clone(l)
	for n := range len(l) + 1 {
		got := Squeeze(l[:n])
		for i := range got {
			got[i] = Piece{Hop: -1}
		}
		_ = append(got, Piece{Hop: -2})
		At(l[:n], written.Addr("12.0.0.0"))
		if !slices.Equal(l, was) {
			t.Fatalf("with %d: %s", n, show(l...))
		}
	}
}

// Asking changes no route, and what was told stays as it was when the routes change.
func TestKeepsNothing(t *testing.T) {
	r, m := with(t, some)
	n, nodes, slots := r.Size()
	told, _ := Pieces(r, written.Prefix("0.0.0.0/0"), 99)
	was := slices.Clone(told)
	for _, p := range append(onpaper.Wrong(), written.Prefixes("0.0.0.0/0 ::/0 10.0.0.0/8 10.1.2.3/32")...) {
		Pieces(r, p, 7)
		Count(r, p)
	}
	if a, b, c := r.Size(); a != n || b != nodes || c != slots || !slices.Equal(r.Dump(), m.All()) {
		t.Error(a, b, c, r.Dump())
	}
	r.Withdraw(written.Prefix("10.1.2.3/32"))
	r.Add(written.Prefix("0.0.0.0/0"), 77)
	if l, _ := Pieces(r, written.Prefix("0.0.0.0/0"), 99); slices.Equal(l, was) || !slices.Equal(told, was) {
		t.Error(show(l...), show(told...))
	}
}

// The chapter's example.
func TestExample(t *testing.T) {
	r, _ := with(t, "10.1.0.0/16>1")
	p, all := written.Prefix("10.0.0.0/8"), list("10.0.0.0/16 10.1.0.0/16>1 10.2.0.0/15 10.4.0.0/14 10.8.0.0/13 10.16.0.0/12 10.32.0.0/11 10.64.0.0/10 10.128.0.0/9")
	if len(all) != 9 {
		t.Fatal(len(all))
	}
	wantAll(t, r, p, all)
}
