package onpaper

import (
	"slices"

	"kedge/api"
)

// Flip is an address with its k-th digit the other one.
func Flip(a api.Addr, k int) api.Addr {
	if k < 64 {
		a.Hi ^= 1 << (63 - k)
	} else {
		a.Lo ^= 1 << (127 - k)
	}
	return a
}

// World is small enough to be gone over whole: 4 digits at a place of an address, with nothing but 0, or 1, behind them.
type World struct {
	hi, lo uint64
	at     int
	v6     bool
}

// Worlds are of both kinds, at the beginning, at the end, and where the first word ends.
func Worlds() []World {
	return []World{{0, 0, 0, false}, {0x0A010200 << 32, 0, 28, false}, {0, 0, 0, true}, {0x20010DB800000000, 0, 62, true}, {0x20010DB800000000, 7 << 60, 124, true}}
}

// address is the k-th one, of 32.
func (w World) address(k int) api.Addr {
	a := Cut(w.hi, w.lo, w.at, w.v6).A
	for i := range 4 {
		if k>>(3-i)&1 == 1 {
			a = Flip(a, w.at+i)
		}
	}
	for i := w.at + 4; k >= 16 && i < Width(w.v6); i++ {
		a = Flip(a, i)
	}
	return a
}

// Addrs are its addresses.
func (w World) Addrs() []api.Addr {
	var l []api.Addr
	for k := range 32 {
		l = append(l, w.address(k))
	}
	return l
}

// Prefixes are those with 1 digit ahead of the world's at the most, and the one of no digits.
func (w World) Prefixes() []api.Prefix {
	l := []api.Prefix{Cut(0, 0, 0, w.v6)}
	for n := max(w.at-1, 1); n <= w.at+4; n++ {
		for _, a := range w.Addrs() {
			if p := Cut(a.Hi, a.Lo, n, w.v6); !slices.Contains(l, p) {
				l = append(l, p)
			}
		}
	}
	return l
}

// Routes are of some of its prefixes, to few hops.
func (w World) Routes(mix *Mixer) []api.Route {
	var l []api.Route
	often := 1 + mix.Below(8)
	for _, p := range w.Prefixes() {
		if mix.Below(often) == 0 {
			l = append(l, api.Route{P: p, Hop: mix.Below(3)})
		}
	}
	return l
}
