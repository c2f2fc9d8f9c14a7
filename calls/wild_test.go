package calls

import (
	"bytes"
	"math"
	"slices"
	"strings"
	"testing"

	"kedge/addr"
	"kedge/api"
	"kedge/cover"
	"kedge/engine"
	"kedge/fills"
	"kedge/forward"
	"kedge/hier"
	"kedge/ipv4"
	"kedge/ipv6"
	"kedge/leafgen"
	"kedge/prefetch"
	"kedge/prefix"
	"kedge/queue"
	"kedge/recency"
	"kedge/rib"
	"kedge/script"
	"kedge/sketch"
	"kedge/slots"
	"kedge/stats"
	"kedge/sums"
	"kedge/table"
	"kedge/text"
	"kedge/trie"
	"kedge/victim"
	"kedge/wire"
)

// P1 of the document: every call ends, and none panics, at all arguments. A panic, or a call that does not end, fails these tests; what is answered is the matter of each package's own.

var ints = []int{math.MinInt, -129, -1, 0, 1, 2, 31, 32, 33, 63, 64, 127, 128, 129, 4096, 65535, 65536, math.MaxInt}

var addrs = []api.Addr{
	{},
	{V6: true},
	{Hi: 0x0A000001 << 32},
	{Hi: math.MaxUint64, Lo: math.MaxUint64},
	{Hi: math.MaxUint64, Lo: math.MaxUint64, V6: true},
	{Hi: 0x20010DB800000000, Lo: 1, V6: true},
	{Hi: 1, Lo: 1 << 63},
}

func prefixes() []api.Prefix {
	var l []api.Prefix
	for _, a := range addrs {
		for _, n := range ints {
			l = append(l, api.Prefix{A: a, N: n})
		}
	}
	return l
}

func routes() []api.Route {
	var l []api.Route
	for i, p := range prefixes() {
		l = append(l, api.Route{P: p, Hop: ints[i%len(ints)]}, api.Route{P: p, Hop: 1})
	}
	return l
}

func byteLists() [][]byte {
	l := [][]byte{nil, {}}
	for _, n := range []int{1, 2, 3, 4, 5, 15, 16, 17, 19, 20, 21, 39, 40, 41, 60, 256, 2048, 2049} {
		l = append(l, make([]byte, n), bytes.Repeat([]byte{255}, n), bytes.Repeat([]byte{0x45}, n), bytes.Repeat([]byte{0x60}, n))
	}
	return l
}

func ribs() []*rib.Rib {
	l := []*rib.Rib{nil, new(rib.Rib)}
	for _, n := range ints {
		l = append(l, rib.New(n, n))
	}
	full := rib.New(api.MaxRoutes, api.MaxHop)
	for _, x := range routes() {
		full.Add(x.P, x.Hop)
	}
	return append(l, full)
}

func queues() []queue.Queue {
	l := []queue.Queue{{}, queue.New(math.MinInt), queue.New(math.MaxInt)}
	for _, bound := range ints {
		q := queue.Queue{Bound: bound}
		for i, x := range routes() {
			if i%17 == 0 {
				q.L = append(q.L, queue.Entry{A: x.P.A, X: x, Stale: i%2 == 0})
			}
		}
		l = append(l, q)
	}
	return l
}

func hiers() []*hier.Hier {
	l := []*hier.Hier{nil, new(hier.Hier), hier.New(hier.Config{})}
	for _, n := range ints {
		l = append(l, hier.New(hier.Config{Cap: n, Policy: n, Bound: n, N: n, H: n, Presets: []uint64{math.MaxUint64}}))
	}
	return l
}

func TestAddr(t *testing.T) {
	for _, a := range addrs {
		addr.Sane(a)
		addr.Width(a.V6)
		addr.Bytes(a)
		addr.Next(a)
		for _, b := range addrs {
			addr.Compare(a, b)
			addr.Common(a, b)
		}
		for _, n := range ints {
			addr.Bit(a, n)
			addr.Mask(a, n)
			addr.Fill(a, n)
			for _, v := range ints {
				addr.Set(a, n, v)
			}
		}
	}
	for _, b := range byteLists() {
		addr.From(b)
	}
}

func TestPrefix(t *testing.T) {
	for _, p := range prefixes() {
		prefix.Sane(p)
		prefix.Parent(p)
		prefix.Sibling(p)
		prefix.Ends(p)
		for _, n := range ints {
			prefix.Child(p, n)
			prefix.Of(p.A, n)
		}
		for _, a := range addrs {
			prefix.Contains(p, a)
		}
		for _, q := range prefixes() {
			prefix.Covers(p, q)
			prefix.Inside(p, q)
			prefix.Apart(p, q)
			prefix.Join(p, q)
			prefix.Compare(p, q)
		}
	}
}

func TestText(t *testing.T) {
	for _, p := range prefixes() {
		text.PrintAddr(p.A)
		text.Print(p)
	}
	long := strings.Repeat("9", 1000)
	for _, s := range []string{"", "/", ".", ":", "::", ":::", "1.2.3.4", "1.2.3.4/", "1.2.3.4/" + long, long, long + "/1", "::/" + long, "\xff\xfe", "\x00", "1.2.3.\xff", strings.Repeat(":", 1000), strings.Repeat("1:", 1000), "é/é"} {
		text.ParseAddr(s)
		text.Parse(s)
	}
	for _, b := range byteLists() {
		for _, s := range []string{string(b), "::" + string(b), string(b) + "/" + string(b), "::/" + string(b), "1.2.3." + string(b)} {
			text.ParseAddr(s)
			text.Parse(s)
		}
	}
}

// wireBytes are lists that begin as a prefix's bytes may, or nearly, and end at any place.
func wireBytes() [][]byte {
	l := byteLists()
	for _, kind := range []byte{0, 4, 5, 6, 255} {
		for _, n := range []byte{0, 1, 7, 8, 9, 31, 32, 33, 127, 128, 129, 255} {
			for size := range 21 {
				l = append(l, append([]byte{kind, n}, make([]byte, size)...), append([]byte{kind, n}, bytes.Repeat([]byte{255}, size)...))
			}
		}
	}
	return append(l, bytes.Repeat([]byte{4, 0, 0, 1}, 5000), bytes.Repeat([]byte{6, 4}, 5000))
}

func TestWire(t *testing.T) {
	wire.PutAll(nil)
	wire.PutAll(routes())
	for _, x := range routes() {
		wire.Good(x)
		wire.PutAll([]api.Route{x})
		for _, b := range [][]byte{nil, {}, {4}, make([]byte, 3, 64)} {
			wire.Put(b, x.P)
			wire.PutRoute(b, x)
		}
	}
	for _, b := range wireBytes() {
		wire.Put(b, api.Prefix{})
		wire.PutRoute(b, api.Route{})
		wire.Get(b)
		wire.GetRoute(b)
		wire.GetAll(b)
	}
}

func TestTrie(t *testing.T) {
	for _, x := range []*trie.Trie{nil, new(trie.Trie), trie.New()} {
		for range 2 {
			for i, p := range prefixes() {
				x.Put(p, ints[i%len(ints)])
				x.Get(p)
				x.Longest(p.A)
				x.Above(p)
				x.Under(p)
				x.Inside(p)
			}
			for i, p := range prefixes() { // while less and less is there
				x.Above(p)
				x.Under(p)
				x.Inside(p)
				x.Longest(addrs[i%len(addrs)])
				x.Del(p)
				x.Del(p)
				x.Get(p)
			}
			x.Len()
			x.Nodes()
			x.Slots()
		}
	}
}

func TestRib(t *testing.T) {
	l := ribs()
	for _, n := range ints {
		l = append(l, rib.New(n, api.MaxHop), rib.New(api.MaxRoutes, n))
	}
	for _, r := range l {
		for range 2 {
			for i, x := range routes() {
				r.Add(x.P, x.Hop)
				r.Add(x.P, ints[i/2%len(ints)])
				r.Longest(x.P.A)
				r.Governs(x.P)
				r.Inside(x.P)
			}
			r.Dump()
			r.Hops()
			r.Size()
			for i, x := range routes() { // while less and less is there
				r.Withdraw(x.P)
				r.Withdraw(x.P)
				r.Longest(addrs[i%len(addrs)])
				r.Governs(x.P)
				r.Inside(x.P)
			}
			r.Dump()
			r.Hops()
			r.Size()
		}
	}
}

func TestLeafgen(t *testing.T) {
	for _, r := range ribs() {
		for range 2 {
			for _, a := range addrs {
				leafgen.Leaf(r, a)
				leafgen.Block(r, a)
				leafgen.Exact(r, a)
				for _, n := range ints {
					leafgen.Widest(r, a, n)
				}
			}
			for i, x := range routes() { // while less and less is there
				leafgen.Good(r, x)
				leafgen.Leaf(r, x.P.A)
				leafgen.Widest(r, x.P.A, ints[i%len(ints)])
				r.Withdraw(x.P)
			}
		}
	}
}

// pieceLists are of all prefixes, forwards and backwards, with hops of any kind, and of each prefix with what stands beside it.
func pieceLists() [][]cover.Piece {
	var all []cover.Piece
	for _, x := range routes() {
		all = append(all, cover.Piece{P: x.P, Hop: x.Hop, Routed: x.Hop > 0}, cover.Piece{P: x.P})
	}
	back := slices.Clone(all)
	slices.Reverse(back)
	l := [][]cover.Piece{nil, {}, all, back}
	for _, x := range all {
		beside := cover.Piece{P: x.P, Hop: x.Hop, Routed: x.Routed}
		beside.P.A.Hi ^= 1 << 63
		l = append(l, []cover.Piece{x}, []cover.Piece{x, x}, []cover.Piece{x, beside}, []cover.Piece{beside, x, beside})
	}
	return l
}

func TestCover(t *testing.T) {
	for _, r := range ribs() {
		for _, p := range prefixes() {
			cover.Count(r, p)
			for _, n := range ints {
				cover.Pieces(r, p, n)
			}
		}
		for i, p := range prefixes() { // while less and less is there
			r.Withdraw(p)
			cover.Count(r, api.Prefix{A: api.Addr{V6: p.A.V6}})
			cover.Pieces(r, api.Prefix{A: api.Addr{V6: p.A.V6}}, ints[i%len(ints)])
		}
	}
	for _, l := range pieceLists() {
		cover.Squeeze(l)
		for _, a := range addrs {
			cover.At(l, a)
			cover.At(cover.Squeeze(l), a)
		}
	}
}

// wildSlots are of a type of any kind: its constraint is any.
func wildSlots[T any](things ...T) {
	l := []*slots.Slots[T]{nil, new(slots.Slots[T])}
	for _, n := range ints {
		l = append(l, slots.New[T](n))
	}
	for _, s := range l {
		for range 2 { // the second time there is what was left
			for k, i := range ints {
				x := things[k%len(things)]
				s.Take(x)
				s.At(i)
				s.Swap(i, x)
				s.Give(i)
				s.Give(i)
				s.At(i)
				s.Swap(i, x)
			}
			for range api.MaxSlots + 1 { // until all have a thing
				s.Take(things[0])
			}
			s.Used()
			for i := range s.Cap() + 1 {
				s.Swap(s.Cap()-i, things[0])
				s.Give(s.Cap() - i)
				s.Give(i)
			}
			s.Used()
			s.Len()
		}
	}
}

func TestSlots(t *testing.T) {
	wildSlots(ints...)
	wildSlots("", "a")
	wildSlots(struct{}{})
	wildSlots[any](nil, []int{1}, map[string]int{}, math.NaN())
	wildSlots(nil, func() { panic("what is kept is not called") })
	wildSlots(nil, new(int))
	wildSlots(nil, []byte{1})
	wildSlots(routes()...)
	wildSlots([4096]byte{})
	wildSlots(nil, slots.New[int](1))
}

func TestRecency(t *testing.T) {
	l := []*recency.List{nil, new(recency.List)}
	for _, n := range ints {
		l = append(l, recency.New(n))
	}
	for _, s := range l {
		for range 2 { // the second time there is what was left
			for k, i := range ints {
				s.Drop(i)
				s.Touch(i)
				s.Touch(i)
				s.Has(i)
				s.Last()
				s.Order()
				s.Drop(ints[len(ints)-1-k])
				s.Has(i)
			}
			for i := range api.MaxSlots + 2 { // until all are there
				s.Touch(i - 1)
			}
			s.Order()
			s.Len()
			for i := range api.MaxSlots / 2 { // from both ends
				s.Drop(i)
				s.Last()
				s.Drop(api.MaxSlots - i)
				s.Touch(i / 2)
			}
			s.Order()
			s.Len()
		}
		for range api.MaxSlots + 1 { // until none is there
			i, _ := s.Last()
			s.Drop(i)
		}
		s.Last()
		s.Order()
		s.Len()
	}
}

func TestSketch(t *testing.T) {
	l := []*sketch.Sketch{nil, new(sketch.Sketch)}
	for _, n := range append([]int{254, 255, 256, 257}, ints...) {
		l = append(l, sketch.New(n, 3), sketch.New(3, n), sketch.New(n, n))
		for _, p := range prefixes() {
			sketch.Hash(n, p)
		}
	}
	for _, s := range l {
		s.Count(api.Prefix{})
		for range 2 { // the second time there is what was left
			for _, p := range prefixes() {
				s.Add(p)
				s.Count(p)
			}
			for range 300 { // until no count is more
				s.Add(api.Prefix{})
			}
			s.Rows()
			s.Decay()
			s.Count(api.Prefix{})
			s.Rows()
		}
		for range 9 { // until none is left
			s.Decay()
		}
		s.Count(api.Prefix{})
		s.Rows()
	}
}

// entryLists are of no entries, of one and of many, of Scores that are alike, that rise, that fall and of any kind.
func entryLists() [][]victim.Entry {
	l := [][]victim.Entry{nil, {}, {{}}, make([]victim.Entry, 0, 3)}
	var any, rising, falling []victim.Entry
	for i, n := range ints {
		l = append(l, []victim.Entry{{I: n, Score: n}}, []victim.Entry{{I: n}, {Score: n}, {I: n, Score: n}})
		any = append(any, victim.Entry{I: n, Score: ints[i*5%len(ints)]}, victim.Entry{I: n})
		rising = append(rising, victim.Entry{I: i, Score: n})
		falling = append(falling, victim.Entry{I: -i, Score: ints[len(ints)-1-i]})
	}
	return append(l, any, any[:7], rising, falling, slices.Repeat(any, 100), make([]victim.Entry, api.MaxSlots+1))
}

func TestVictim(t *testing.T) {
	for _, policy := range ints {
		for _, l := range entryLists() {
			victim.Choose(policy, l)
			victim.Rank(policy, l)
		}
	}
}

func tables() []*table.Table {
	l := []*table.Table{nil, new(table.Table)}
	for _, n := range ints {
		l = append(l, table.New(n, 0), table.New(n, 1), table.New(4, n), table.New(n, n))
	}
	return l
}

func TestTable(t *testing.T) {
	for _, x := range tables() {
		for range 2 { // the second time there is what was counted
			for i, r := range routes() {
				x.Install(r, i%2 == 0)
				x.Install(r, i%3 == 0)
				x.Find(r.P.A)
				x.Hit(r.P.A)
				x.Hit(addrs[i%len(addrs)])
			}
			x.Tick()
			x.All()
			x.Order()
			x.Size()
			x.Flush(api.Prefix{})
			for i := range api.MaxSlots + 2 { // until no place is free
				x.Install(api.Route{P: api.Prefix{A: api.Addr{Hi: uint64(i) << 53}, N: 12}, Hop: i}, false)
			}
			for i, p := range prefixes() { // while less and less is there
				x.Evict(p)
				x.Evict(p)
				x.Find(addrs[i%len(addrs)])
				x.Flush(p)
				x.Flush(p)
				x.Hit(p.A)
			}
			x.All()
			x.Order()
			x.Size()
		}
	}
}

func TestQueueAndFills(t *testing.T) {
	for _, q := range queues() {
		queue.Sane(q)
		for _, x := range routes() {
			queue.Offer(q, x.P.A, x)
			queue.Narrow(q, x.P)
		}
		for _, a := range addrs {
			queue.Pending(q, a)
		}
		for _, n := range ints {
			queue.Pick(q, n)
		}
		for _, r := range ribs() {
			fills.Clean(r, q)
			fills.Renew(r, q)
			for _, a := range addrs {
				fills.Ask(r, q, a)
			}
			for _, n := range ints {
				fills.Serve(r, q, n)
			}
		}
	}
}

func TestStats(t *testing.T) {
	for _, presets := range [][]uint64{nil, {math.MaxUint64}, make([]uint64, 100)} {
		s := stats.New(presets)
		stats.Sum(s, nil)
		stats.Sum(s, ints)
		for _, k := range ints {
			stats.Get(s, k)
			stats.Name(k)
			for _, n := range ints {
				stats.Bump(s, k, n)
			}
		}
	}
}

func TestHierAndPrefetch(t *testing.T) {
	for _, h := range hiers() {
		for _, x := range routes() {
			h.Add(x.P, x.Hop)
			h.Lookup(x.P.A)
			h.Soft(x)
			h.Evict(x.P)
		}
		for _, n := range ints {
			h.Pick(n)
			h.Count(n, n)
			prefetch.Pick(h, n, n)
			prefetch.Fetch(h, api.Prefix{A: addrs[2], N: 24}, n)
		}
		for _, p := range prefixes() {
			prefetch.Fetch(h, p, 3)
			h.Withdraw(p)
		}
		h.Tick()
		h.Routes()
		h.Residents()
		h.Waits()
		h.Stats()
	}
	for _, r := range ribs() {
		for _, p := range prefixes() {
			prefetch.Beside(r, p, math.MinInt)
			prefetch.Beside(r, p, math.MaxInt)
		}
	}
}

func TestPackets(t *testing.T) {
	for _, b := range byteLists() {
		sums.Sum(b)
		sums.Check(b)
		for _, at := range ints {
			sums.Fill(b, at)
		}
		ipv4.Parse(b)
		ipv4.Hop(b)
		ipv6.Parse(b)
		ipv6.Hop(b)
		for i, n := range ints {
			a := addrs[i%len(addrs)]
			ipv4.Build(ipv4.Head{Long: n, Total: n, TTL: n, Proto: n, Src: a, Dst: a}, b)
			ipv6.Build(ipv6.Head{Class: n, Flow: n, Body: n, Next: n, Limit: n, Src: a, Dst: a}, b)
		}
	}
	for _, w := range []uint16{0, 1, math.MaxUint16} {
		sums.Add(w, w)
		sums.Patch(w, 0, w)
		sums.Patch(0, w, w)
	}
}

func TestForward(t *testing.T) {
	for _, b := range byteLists() {
		forward.Target(b)
		for _, h := range hiers() {
			forward.Decide(h, b)
		}
	}
	var l []forward.Port
	for _, n := range ints {
		l = append(l, forward.Port{Hop: n, Packets: math.MaxUint64, Bytes: math.MaxUint64})
	}
	for _, l := range [][]forward.Port{nil, l} {
		forward.Sane(l)
		for _, n := range ints {
			forward.Account(l, forward.Verdict{Kind: n, Why: n, Hop: n, Class: n})
			forward.Account(l, forward.Verdict{Kind: forward.Via, Hop: n, Out: make([]byte, 20)})
		}
	}
}

func TestScriptAndEngine(t *testing.T) {
	var steps []script.Step
	for i, p := range prefixes() {
		n := ints[i%len(ints)]
		steps = append(steps, script.Step{What: i % 12, P: p, Hop: n, N: n}, script.Step{What: n, P: p})
	}
	for _, b := range byteLists() {
		script.Decode(b)
		engine.Run(b)
		steps = append(steps, script.Step{What: script.Packet, Packet: b})
	}
	for _, n := range ints {
		script.Name(n)
		c := script.Config{Cap: n, Policy: n, Bound: n, N: n, H: n, Fetch: n, Presets: []uint64{math.MaxUint64}}
		script.Encode(c, steps)
		script.Fits(c, steps)
		engine.Play(c, steps)
	}
	engine.Play(script.Config{}, nil)
	for _, e := range []*engine.Engine{nil, new(engine.Engine), engine.New(script.Config{})} {
		for _, s := range steps {
			e.Step(s)
		}
		e.Hier()
	}
}
