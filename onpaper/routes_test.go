package onpaper

import (
	"slices"
	"testing"

	"kedge/api"
)

// With 0.0.0.0/0, 10.1.0.0/16 and ::/0.
func TestRoutes(t *testing.T) {
	ten := Cut(0x0A010000<<32, 0, 16, false)
	r := Routes{{}: 1, ten: 2, {A: api.Addr{V6: true}}: 3}
	if l := r.All(); len(l) != 3 || l[0] != (api.Route{Hop: 1}) || l[1] != (api.Route{P: ten, Hop: 2}) || l[2].Hop != 3 {
		t.Error(l)
	}
	if !r.Inside(api.Prefix{}) || r.Inside(ten) || r.Inside(api.Prefix{A: api.Addr{V6: true}}) {
		t.Error("Inside")
	}
	for _, c := range []struct {
		a    api.Addr
		leaf api.Route
		hop  int
	}{
		{api.Addr{Hi: 0x0A010203 << 32}, api.Route{P: ten, Hop: 2}, 2},
		{api.Addr{Hi: 0x0A000203 << 32}, api.Route{P: Cut(0x0A000000<<32, 0, 16, false), Hop: 1}, 1},
		{api.Addr{Hi: 0x0B000203 << 32}, api.Route{P: Cut(0x0B000000<<32, 0, 8, false), Hop: 1}, 1},
		{api.Addr{Hi: 0x0A010203 << 32, V6: true}, api.Route{P: api.Prefix{A: api.Addr{V6: true}}, Hop: 3}, 3},
	} {
		if x, ok := r.Longest(c.a); !ok || x.Hop != c.hop {
			t.Errorf("Longest(%v) = %v, %v", c.a, x, ok)
		}
		if x, ok := r.Leaf(c.a); !ok || x != c.leaf {
			t.Errorf("Leaf(%v) = %v, %v, not %v", c.a, x, ok, c.leaf)
		}
		if p := r.Widest(c.a, 20); p != Cut(c.a.Hi, c.a.Lo, 20, c.a.V6) {
			t.Errorf("Widest(%v, 20) = %v", c.a, p)
		}
	}
	if x, ok := (Routes{}).Leaf(api.Addr{}); ok || x != (api.Route{}) {
		t.Error(x, ok)
	}
}

// With 10.1.0.0/16 inside, and 10.1.0.0/17 in that.
func TestBlocks(t *testing.T) {
	ten, in := Cut(0x0A010000<<32, 0, 16, false), Cut(0x0A010000<<32, 0, 17, false)
	r := Routes{{}: 1, ten: 2, in: 3, {A: api.Addr{V6: true}}: 3}
	want := []api.Prefix{
		Cut(0x0A000000<<32, 0, 16, false), in, Cut(0x0A018000<<32, 0, 17, false),
		Cut(0x0A020000<<32, 0, 15, false), Cut(0x0A040000<<32, 0, 14, false),
	}
	if l := r.Blocks(Cut(0x0A000000<<32, 0, 13, false)); !slices.Equal(l, want) {
		t.Error(l)
	}
	if l := r.Blocks(api.Prefix{}); len(l) != 18 { // one more than there are digits
		t.Error(l)
	}
	for _, p := range []api.Prefix{in, want[0], {A: api.Addr{V6: true}}, {A: api.Addr{V6: true}, N: 128}} {
		if l := r.Blocks(p); !slices.Equal(l, []api.Prefix{p}) {
			t.Errorf("Blocks(%v) = %v", p, l)
		}
	}
	for _, p := range Wrong() {
		if l := r.Blocks(p); len(l) != 0 {
			t.Errorf("Blocks(%v) = %v", p, l)
		}
	}
}
