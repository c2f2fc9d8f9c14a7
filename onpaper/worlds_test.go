package onpaper

import (
	"slices"
	"testing"
)

// Each world has 16 blocks of 4 digits, and all its addresses and routes are of its own prefixes.
func TestWorlds(t *testing.T) {
	mix := Mixer(3)
	for _, w := range Worlds() {
		l, long := w.Prefixes(), 0
		for _, p := range l {
			if !MayBe(p) || p.A.V6 != w.v6 {
				t.Errorf("%v may not be", p)
			}
			if p.N == w.at+4 {
				long++
			}
		}
		if long != 16 {
			t.Errorf("%v has %d blocks of 4 digits", w, long)
		}
		for _, a := range w.Addrs() {
			if !slices.Contains(l, Cut(a.Hi, a.Lo, w.at+4, w.v6)) {
				t.Errorf("%v is not of the world %v", a, w)
			}
		}
		for _, x := range w.Routes(&mix) {
			if !slices.Contains(l, x.P) {
				t.Errorf("%v is not of the world %v", x, w)
			}
		}
	}
}

func TestFlip(t *testing.T) {
	for k := range 128 {
		for _, a := range Addrs() {
			s, f := Digits(a), Digits(Flip(a, k))
			if s[:k] != f[:k] || s[k] == f[k] || s[k+1:] != f[k+1:] {
				t.Errorf("Flip(%v, %d) = %v", a, k, Flip(a, k))
			}
		}
	}
}
