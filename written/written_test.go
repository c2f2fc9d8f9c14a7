package written

import (
	"testing"

	"kedge/api"
	"kedge/onpaper"
)

func TestAsWritten(t *testing.T) {
	const s = "10.0.0.0/8>1 10.1.2.3/32>0 2001:db8::/32>65535"
	l := Routes(s)
	if len(l) != 3 || Show(l...) != s || l[0] != (api.Route{P: api.Prefix{A: api.Addr{Hi: 10 << 56}, N: 8}, Hop: 1}) {
		t.Errorf("Routes(%s) = %v", s, l)
	}
	if l := Prefixes("::/0 10.0.0.0/8"); len(l) != 2 || l[0] != (api.Prefix{A: api.Addr{V6: true}}) || l[1] != Prefix("10.0.0.0/8") {
		t.Error(l)
	}
	if a := Addr("10.0.0.1"); a != (api.Addr{Hi: 0x0A000001 << 32}) {
		t.Error(a)
	}
}

func TestNotOfTheForm(t *testing.T) {
	for _, s := range []string{"", "10.0.0.0", "10.0.0.0/8", "10.0.0.0/8>", "10.0.0.0/8>x", "10.0.0.1/8>1", ">1", "/>1"} {
		if x := Route(s); onpaper.MayBe(x.P) {
			t.Errorf("Route(%q) = %v", s, x)
		}
	}
	for _, s := range []string{"", "10.0.0.1/8", "10.0.0.0", "x"} {
		if p := Prefix(s); onpaper.MayBe(p) {
			t.Errorf("Prefix(%q) = %v", s, p)
		}
	}
	if a := Addr("10.0.0"); a.Lo == 0 {
		t.Error(a)
	}
}
