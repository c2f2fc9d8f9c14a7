package table

import (
	"hash/fnv"
	"slices"
	"testing"

	"kedge/api"
	"kedge/onpaper"
	"kedge/written"
)

// The tests hold the package against what is written out by hand, and against a model: a list of the residents, the one that was used last first, which is gone over from end to end for each question, and a map of how often each place of the sketch was counted, found by the library's FNV-1a of a prefix's digits written out as text.

type place struct {
	row int
	at  uint64
}

type model struct {
	most, policy int
	l            []api.Route // the one that was used last first
	counts       map[place]int
}

func newModel(most, policy int) *model {
	return &model{most: min(max(most, 0), 1024), policy: policy, counts: map[place]int{}}
}

func placesOf(p api.Prefix) []place {
	var l []place
	for row := range 2 {
		h := fnv.New64a()
		h.Write([]byte{byte(row)})
		h.Write(onpaper.Laid(p))
		l = append(l, place{row, h.Sum64() % 64})
	}
	return l
}

func (m *model) count(p api.Prefix) int {
	l := placesOf(p)
	return min(m.counts[l[0]], m.counts[l[1]])
}

func overlap(p, q api.Prefix) bool { return onpaper.Covers(p, q) || onpaper.Covers(q, p) }

// those are the residents whose prefix is wanted, in order.
func (m *model) those(want func(q api.Prefix) bool) []api.Route {
	l := slices.DeleteFunc(slices.Clone(m.l), func(x api.Route) bool { return !want(x.P) })
	slices.SortFunc(l, func(x, y api.Route) int { return onpaper.Compare(x.P, y.P) })
	return l
}

func (m *model) all() []api.Route { return m.those(func(api.Prefix) bool { return true }) }

func (m *model) order() []api.Prefix {
	var l []api.Prefix
	for _, x := range m.l {
		l = append(l, x.P)
	}
	return l
}

// gone lets those whose prefix is wanted go; they, in order.
func (m *model) gone(want func(q api.Prefix) bool) []api.Route {
	l := m.those(want)
	m.l = slices.DeleteFunc(m.l, func(x api.Route) bool { return want(x.P) })
	return l
}

// used puts a resident, or one that comes to be one, first, and counts it.
func (m *model) used(x api.Route) {
	m.l = slices.DeleteFunc(m.l, func(y api.Route) bool { return y.P == x.P })
	m.l = slices.Insert(m.l, 0, x)
	for _, at := range placesOf(x.P) {
		m.counts[at] = min(m.counts[at]+1, 255)
	}
}

func (m *model) find(a api.Addr) (api.Route, bool) {
	for _, x := range m.l {
		if onpaper.Contains(x.P, a) {
			return x, true
		}
	}
	return api.Route{}, false
}

func (m *model) hit(a api.Addr) (api.Route, bool) {
	x, ok := m.find(a)
	if ok {
		m.used(x)
	}
	return x, ok
}

// goes is the prefix of the one that has to go; there is one.
func (m *model) goes() api.Prefix {
	last := m.l[len(m.l)-1].P
	if m.policy != 1 {
		return last
	}
	for _, x := range slices.Backward(m.l) {
		if m.count(x.P) < m.count(last) {
			last = x.P
		}
	}
	return last
}

func (m *model) install(x api.Route, soft bool) Report {
	if !onpaper.MayBe(x.P) || x.Hop < 0 || x.Hop > 65535 || m.most == 0 || len(m.those(func(q api.Prefix) bool { return onpaper.Covers(q, x.P) })) > 0 {
		return Report{}
	}
	inside := func(q api.Prefix) bool { return onpaper.Covers(x.P, q) }
	if soft && (len(m.those(inside)) > 0 || len(m.l) == m.most) {
		return Report{}
	}
	r := Report{In: true, Absorbed: m.gone(inside)}
	if len(m.l) == m.most {
		goes := m.goes()
		r.Out = m.gone(func(q api.Prefix) bool { return q == goes })
	}
	m.used(x)
	return r
}

func (m *model) evict(p api.Prefix) bool {
	return len(m.gone(func(q api.Prefix) bool { return q == p })) > 0
}

func (m *model) flush(p api.Prefix) []api.Route {
	return m.gone(func(q api.Prefix) bool { return overlap(p, q) })
}

func (m *model) tick() {
	for at := range m.counts {
		m.counts[at] /= 2
	}
}

func sameReport(r, s Report) bool {
	return r.In == s.In && slices.Equal(r.Absorbed, s.Absorbed) && slices.Equal(r.Out, s.Out)
}

// wantSame: whatever is asked of all residents, it is told as the model tells it; they are apart, and not more than may be.
func wantSame(t *testing.T, x *Table, m *model) {
	t.Helper()
	all := x.All()
	if n, most := x.Size(); n != len(m.l) || most != m.most || n > most {
		t.Errorf("Size = %d, %d, not %d, %d", n, most, len(m.l), m.most)
	}
	if !slices.Equal(all, m.all()) {
		t.Errorf("All = %s, not %s", written.Show(all...), written.Show(m.all()...))
	}
	if got := x.Order(); !slices.Equal(got, m.order()) {
		t.Errorf("Order = %v, not %v", got, m.order())
	}
	for i, y := range all {
		for _, z := range all[:i] {
			if overlap(y.P, z.P) {
				t.Errorf("%s and %s overlap", written.Show(y), written.Show(z))
			}
		}
	}
}

// pair is a table and its model, of which the same is asked.
type pair struct {
	t *testing.T
	x *Table
	m *model
}

func newPair(t *testing.T, most, policy int) pair {
	return pair{t, New(most, policy), newModel(most, policy)}
}

func (c pair) same() {
	c.t.Helper()
	wantSame(c.t, c.x, c.m)
}

func (c pair) find(a api.Addr) {
	c.t.Helper()
	x, ok := c.x.Find(a)
	if want, there := c.m.find(a); x != want || ok != there {
		c.t.Errorf("Find(%v) = %v, %v, not %v, %v", a, x, ok, want, there)
	}
}

func (c pair) hit(a api.Addr) {
	c.t.Helper()
	x, ok := c.x.Hit(a)
	if want, there := c.m.hit(a); x != want || ok != there {
		c.t.Errorf("Hit(%v) = %v, %v, not %v, %v", a, x, ok, want, there)
	}
}

func (c pair) install(x api.Route, soft bool) {
	c.t.Helper()
	r := c.x.Install(x, soft)
	if want := c.m.install(x, soft); !sameReport(r, want) {
		c.t.Errorf("Install(%v, %v) = %v, not %v", x, soft, r, want)
	}
	if len(r.Absorbed) > 0 && len(r.Out) > 0 {
		c.t.Errorf("Install(%v, %v) = %v", x, soft, r)
	}
}

func (c pair) evict(p api.Prefix) {
	c.t.Helper()
	ok := c.x.Evict(p)
	if want := c.m.evict(p); ok != want {
		c.t.Errorf("Evict(%v) = %v", p, ok)
	}
}

func (c pair) flush(p api.Prefix) {
	c.t.Helper()
	l := c.x.Flush(p)
	if want := c.m.flush(p); !slices.Equal(l, want) {
		c.t.Errorf("Flush(%v) = %s, not %s", p, written.Show(l...), written.Show(want...))
	}
}

func (c pair) tick() {
	c.x.Tick()
	c.m.tick()
}

// findAll asks for each of these, which changes nothing.
func (c pair) findAll(l []api.Addr) {
	c.t.Helper()
	for _, a := range l {
		c.find(a)
	}
	c.same()
}

// step is one of all calls, of one of these.
func (c pair) step(mix *onpaper.Mixer, prefixes []api.Prefix, addrs []api.Addr) {
	c.t.Helper()
	p, a := prefixes[mix.Below(len(prefixes))], addrs[mix.Below(len(addrs))]
	switch k := mix.Below(32); {
	case k < 15:
		c.install(api.Route{P: p, Hop: mix.Below(3)}, mix.Below(4) == 0)
	case k < 26:
		c.hit(a)
	case k < 28:
		c.evict(p)
	case k < 29:
		c.flush(p)
	case k < 30:
		c.tick()
	default:
		c.find(a)
	}
	c.same()
}
