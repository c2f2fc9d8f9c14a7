package onpaper

import (
	"bytes"
	"fmt"
	"math"
	"testing"

	"kedge/api"
)

func TestDigits(t *testing.T) {
	m := Mixer(1)
	for range 200 {
		a := api.Addr{Hi: uint64(m.Below(1<<31))<<33 | uint64(m.Below(1<<31)), Lo: uint64(m.Below(1<<31))<<33 | uint64(m.Below(1<<31)), V6: true}
		s := fmt.Sprintf("%064b%064b", a.Hi, a.Lo)
		if Digits(a) != s {
			t.Errorf("Digits(%v) = %s, not %s", a, Digits(a), s)
		}
		n := m.Below(129)
		p := Cut(a.Hi, a.Lo, n, true)
		if Key(p) != "6:"+s[:n] || !MayBe(p) || !Contains(p, a) {
			t.Errorf("Cut(%v, %d) = %v", a, n, p)
		}
	}
}

func TestWrong(t *testing.T) {
	for _, p := range Wrong() {
		if MayBe(p) || Covers(p, p) || Contains(p, p.A) || Covers(api.Prefix{A: api.Addr{V6: p.A.V6}}, p) {
			t.Errorf("%v may be", p)
		}
	}
}

func TestLaid(t *testing.T) {
	for _, c := range []struct {
		p    api.Prefix
		want []byte
	}{
		{api.Prefix{}, []byte{4, 0}},
		{api.Prefix{A: api.Addr{V6: true}}, []byte{6, 0}},
		{Cut(0x0A810203<<32, 0, 8, false), []byte{4, 8, 10}},
		{Cut(0x0A810203<<32, 0, 9, false), []byte{4, 9, 10, 128}},
		{Cut(0x0A810203<<32, 0, 32, false), []byte{4, 32, 10, 129, 2, 3}},
		{Cut(0x20010DB800000000, 1, 64, true), []byte{6, 64, 0x20, 1, 0x0D, 0xB8, 0, 0, 0, 0}},
		{Cut(0x20010DB800000000, 1, 128, true), []byte{6, 128, 0x20, 1, 0x0D, 0xB8, 0, 0, 0, 0, 0, 0, 0, 0, 0, 0, 0, 1}},
	} {
		if got := Laid(c.p); !bytes.Equal(got, c.want) {
			t.Errorf("Laid(%v) = %v, not %v", c.p, got, c.want)
		}
	}
	for _, p := range Wrong() {
		if got := Laid(p); len(got) != 0 {
			t.Errorf("Laid(%v) = %v", p, got)
		}
	}
}

func TestOrder(t *testing.T) {
	l := []api.Prefix{ // in order
		{},
		{N: 8},
		{A: api.Addr{Hi: 1 << 63}, N: 1},
		{A: api.Addr{V6: true}},
		{A: api.Addr{V6: true}, N: 128},
		{A: api.Addr{Lo: 1, V6: true}, N: 128},
		{A: api.Addr{Hi: math.MaxUint64, Lo: math.MaxUint64, V6: true}, N: 128},
	}
	covers := []string{"1110000", "0100000", "0010000", "0001111", "0000100", "0000010", "0000001"}
	for i, p := range l {
		got := ""
		for j, q := range l {
			if c := Compare(p, q); (c < 0) != (i < j) || (c == 0) != (i == j) {
				t.Errorf("Compare(%v, %v) = %d", p, q, c)
			}
			got += map[bool]string{false: "0", true: "1"}[Covers(p, q)]
		}
		if got != covers[i] {
			t.Errorf("%v covers %s, not %s", p, got, covers[i])
		}
	}
}
