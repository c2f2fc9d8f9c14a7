package onpaper

import (
	"fmt"
	"math"
	"testing"

	"kedge/api"
)

func TestDigits(t *testing.T) {
	m := Mixer(1)
	for range 200 {
		a := api.Addr{Hi: uint64(m.Below(1<<31))<<33 | uint64(m.Below(1<<31)), Lo: uint64(m.Below(1<<31))<<33 | uint64(m.Below(1<<31)), V6: true}
		s := fmt.Sprintf("%064b%064b", a.Hi, a.Lo)
		if Digits(a) != s {
			t.Errorf("Digits(%v) = %s, not %s", a, Digits(a), s)
		}
		n := m.Below(129)
		p := Cut(a.Hi, a.Lo, n, true)
		if Key(p) != "6:"+s[:n] || !MayBe(p) || !Contains(p, a) {
			t.Errorf("Cut(%v, %d) = %v", a, n, p)
		}
	}
}

func TestWrong(t *testing.T) {
	for _, p := range Wrong() {
		if MayBe(p) || Covers(p, p) || Contains(p, p.A) || Covers(api.Prefix{A: api.Addr{V6: p.A.V6}}, p) {
			t.Errorf("%v may be", p)
		}
	}
}

func TestOrder(t *testing.T) {
	l := []api.Prefix{ // in order
		{},
		{N: 8},
		{A: api.Addr{Hi: 1 << 63}, N: 1},
		{A: api.Addr{V6: true}},
		{A: api.Addr{V6: true}, N: 128},
		{A: api.Addr{Lo: 1, V6: true}, N: 128},
		{A: api.Addr{Hi: math.MaxUint64, Lo: math.MaxUint64, V6: true}, N: 128},
	}
	covers := []string{"1110000", "0100000", "0010000", "0001111", "0000100", "0000010", "0000001"}
	for i, p := range l {
		got := ""
		for j, q := range l {
			if c := Compare(p, q); (c < 0) != (i < j) || (c == 0) != (i == j) {
				t.Errorf("Compare(%v, %v) = %d", p, q, c)
			}
			got += map[bool]string{false: "0", true: "1"}[Covers(p, q)]
		}
		if got != covers[i] {
			t.Errorf("%v covers %s, not %s", p, got, covers[i])
		}
	}
}
