package onpaper

import (
	"slices"

	"kedge/api"
)

// Routes are prefixes that may be, each with its hop, gone over from end to end for each question.
type Routes map[api.Prefix]int

// Those are the routes whose prefix is wanted, in order (so the shortest first, of those that cover one).
func (r Routes) Those(want func(q api.Prefix) bool) []api.Route {
	var l []api.Route
	for q, hop := range r {
		if want(q) {
			l = append(l, api.Route{P: q, Hop: hop})
		}
	}
	slices.SortFunc(l, func(x, y api.Route) int { return Compare(x.P, y.P) })
	return l
}

// All are all routes, in order.
func (r Routes) All() []api.Route { return r.Those(func(api.Prefix) bool { return true }) }

func last(l []api.Route) (api.Route, bool) {
	if len(l) == 0 {
		return api.Route{}, false
	}
	return l[len(l)-1], true
}

// Longest is rib.Longest.
func (r Routes) Longest(a api.Addr) (api.Route, bool) {
	return last(r.Those(func(q api.Prefix) bool { return Contains(q, a) }))
}

// Governs is rib.Governs.
func (r Routes) Governs(p api.Prefix) (api.Route, bool) {
	return last(r.Those(func(q api.Prefix) bool { return Covers(q, p) }))
}

// Inside is rib.Inside.
func (r Routes) Inside(p api.Prefix) bool {
	return len(r.Those(func(q api.Prefix) bool { return q != p && Covers(p, q) })) > 0
}

// alike is how many of a prefix's digits, from the first one on, are those of an address of its kind.
func alike(q api.Prefix, a api.Addr) int {
	l, m := line(q.A), line(a)
	for k := range q.N {
		if l[k] != m[k] {
			return k
		}
	}
	return q.N
}

// Widest is leafgen.Widest: a route is inside of all of an address's first digits that are alike, but not where it has no digit more.
func (r Routes) Widest(a api.Addr, least int) api.Prefix {
	n := min(max(least, 0), Width(a.V6))
	for q := range r {
		if q.A.V6 == a.V6 {
			n = max(n, min(alike(q, a), q.N-1)+1)
		}
	}
	return Cut(a.Hi, a.Lo, n, a.V6)
}

// Leaf is leafgen.Leaf.
func (r Routes) Leaf(a api.Addr) (api.Route, bool) {
	p := r.Widest(a, 0)
	x, ok := r.Governs(p)
	if !ok {
		return api.Route{}, false
	}
	return api.Route{P: p, Hop: x.Hop}, true
}

// Blocks are a prefix's, in order, none of which has a route inside. Each but the prefix itself is a route inside of it, or leaves one at its last digit; those of them that are the widest of their first address are told.
func (r Routes) Blocks(p api.Prefix) []api.Prefix {
	if !MayBe(p) {
		return nil
	}
	maybe := []api.Prefix{p}
	for _, x := range r.Those(func(q api.Prefix) bool { return Covers(p, q) }) {
		maybe = append(maybe, x.P)
		for n := p.N; n < x.P.N; n++ {
			a := Flip(x.P.A, n)
			maybe = append(maybe, Cut(a.Hi, a.Lo, n+1, a.V6))
		}
	}
	slices.SortFunc(maybe, Compare)
	return slices.DeleteFunc(slices.Compact(maybe), func(q api.Prefix) bool { return r.Widest(q.A, p.N) != q })
}
