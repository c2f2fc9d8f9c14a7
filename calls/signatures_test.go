package calls

import (
	"kedge/addr"
	"kedge/api"
	"kedge/cover"
	"kedge/engine"
	"kedge/fills"
	"kedge/forward"
	"kedge/hier"
	"kedge/ipv4"
	"kedge/ipv6"
	"kedge/leafgen"
	"kedge/prefetch"
	"kedge/prefix"
	"kedge/queue"
	"kedge/recency"
	"kedge/rib"
	"kedge/script"
	"kedge/sketch"
	"kedge/slots"
	"kedge/stats"
	"kedge/sums"
	"kedge/table"
	"kedge/text"
	"kedge/trie"
	"kedge/victim"
	"kedge/wire"
)

// The calls as the chapters list them: where one is not there, or is of another form, the tests are not built.
var (
	_ func(bool) int                                  = addr.Width
	_ func(api.Addr) bool                             = addr.Sane
	_ func(api.Addr, int) int                         = addr.Bit
	_ func(api.Addr, int, int) api.Addr               = addr.Set
	_ func(api.Addr, int) api.Addr                    = addr.Mask
	_ func(api.Addr, int) api.Addr                    = addr.Fill
	_ func(api.Addr, api.Addr) int                    = addr.Compare
	_ func(api.Addr, api.Addr) int                    = addr.Common
	_ func(api.Addr) []byte                           = addr.Bytes
	_ func([]byte) (api.Addr, api.Errno)              = addr.From
	_ func(api.Addr) (api.Addr, bool)                 = addr.Next
	_ func(api.Prefix) bool                           = prefix.Sane
	_ func(api.Addr, int) api.Prefix                  = prefix.Of
	_ func(api.Prefix, api.Addr) bool                 = prefix.Contains
	_ func(api.Prefix, api.Prefix) bool               = prefix.Covers
	_ func(api.Prefix, api.Prefix) bool               = prefix.Inside
	_ func(api.Prefix, api.Prefix) bool               = prefix.Apart
	_ func(api.Prefix, int) (api.Prefix, bool)        = prefix.Child
	_ func(api.Prefix) (api.Prefix, bool)             = prefix.Parent
	_ func(api.Prefix) (api.Prefix, bool)             = prefix.Sibling
	_ func(api.Prefix, api.Prefix) (api.Prefix, bool) = prefix.Join
	_ func(api.Prefix, api.Prefix) int                = prefix.Compare
	_ func(api.Prefix) (api.Addr, api.Addr)           = prefix.Ends
	_ func(api.Addr) string                           = text.PrintAddr
	_ func(string) (api.Addr, api.Errno)              = text.ParseAddr
	_ func(api.Prefix) string                         = text.Print
	_ func(string) (api.Prefix, api.Errno)            = text.Parse
	_ func([]byte, api.Prefix) []byte                 = wire.Put
	_ func([]byte) (api.Prefix, int, api.Errno)       = wire.Get
	_ func([]byte, api.Route) []byte                  = wire.PutRoute
	_ func([]byte) (api.Route, int, api.Errno)        = wire.GetRoute
	_ func([]api.Route) []byte                        = wire.PutAll
	_ func([]byte) ([]api.Route, api.Errno)           = wire.GetAll
	_ func(api.Route) bool                            = wire.Good
)

var (
	_ func() *trie.Trie = trie.New
	_ interface {
		Put(api.Prefix, int) api.Errno
		Del(api.Prefix) api.Errno
		Get(api.Prefix) (int, bool)
		Longest(api.Addr) (trie.Pair, bool)
		Above(api.Prefix) []trie.Pair
		Under(api.Prefix) []trie.Pair
		Inside(api.Prefix) bool
		Len() int
		Nodes() int
		Slots() int
	} = (*trie.Trie)(nil)
	_ func(int, int) *rib.Rib = rib.New
	_ interface {
		Add(api.Prefix, int) api.Errno
		Withdraw(api.Prefix) api.Errno
		Longest(api.Addr) (api.Route, bool)
		Governs(api.Prefix) (api.Route, bool)
		Inside(api.Prefix) bool
		Dump() []api.Route
		Hops() []int
		Size() (int, int, int)
	} = (*rib.Rib)(nil)
	_ func(*rib.Rib, api.Addr) (api.Route, bool)            = leafgen.Leaf
	_ func(*rib.Rib, api.Addr) api.Prefix                   = leafgen.Block
	_ func(*rib.Rib, api.Route) bool                        = leafgen.Good
	_ func(*rib.Rib, api.Addr) (api.Route, bool)            = leafgen.Exact
	_ func(*rib.Rib, api.Addr, int) api.Prefix              = leafgen.Widest
	_ func(*rib.Rib, api.Prefix, int) ([]cover.Piece, bool) = cover.Pieces
	_ func(*rib.Rib, api.Prefix) int                        = cover.Count
	_ func([]cover.Piece) []cover.Piece                     = cover.Squeeze
	_ func([]cover.Piece, api.Addr) (cover.Piece, bool)     = cover.At
)

var (
	_ func(int) *slots.Slots[string] = slots.New[string]
	_ interface {
		Take(string) (int, bool)
		Give(int) bool
		At(int) (string, bool)
		Swap(int, string) bool
		Used() []int
		Len() int
		Cap() int
	} = (*slots.Slots[string])(nil)
	_ func(int) *recency.List = recency.New
	_ interface {
		Touch(int) bool
		Drop(int) bool
		Last() (int, bool)
		Order() []int
		Has(int) bool
		Len() int
	} = (*recency.List)(nil)
	_ func(int, api.Prefix) uint64  = sketch.Hash
	_ func(int, int) *sketch.Sketch = sketch.New
	_ interface {
		Add(api.Prefix) bool
		Count(api.Prefix) int
		Decay()
		Rows() [][]int
	} = (*sketch.Sketch)(nil)
	_ func(int, []victim.Entry) (int, bool) = victim.Choose
	_ func(int, []victim.Entry) []int       = victim.Rank
	_ func(int, int) *table.Table           = table.New
	_ interface {
		Find(api.Addr) (api.Route, bool)
		Hit(api.Addr) (api.Route, bool)
		Install(api.Route, bool) table.Report
		Evict(api.Prefix) bool
		Flush(api.Prefix) []api.Route
		Tick()
		All() []api.Route
		Order() []api.Prefix
		Size() (int, int)
	} = (*table.Table)(nil)
)

var (
	_ func(int) queue.Queue                                           = queue.New
	_ func(queue.Queue) bool                                          = queue.Sane
	_ func(queue.Queue, api.Addr, api.Route) (queue.Queue, int)       = queue.Offer
	_ func(queue.Queue, api.Prefix) (queue.Queue, int)                = queue.Narrow
	_ func(queue.Queue, int) (queue.Queue, queue.Entry, bool)         = queue.Pick
	_ func(queue.Queue, api.Addr) int                                 = queue.Pending
	_ func([]uint64) stats.Stats                                      = stats.New
	_ func(stats.Stats, int, int) stats.Stats                         = stats.Bump
	_ func(stats.Stats, int) uint64                                   = stats.Get
	_ func(stats.Stats, []int) uint64                                 = stats.Sum
	_ func(int) string                                                = stats.Name
	_ func(*rib.Rib, queue.Queue, api.Addr) (queue.Queue, int)        = fills.Ask
	_ func(*rib.Rib, queue.Queue, int) (queue.Queue, api.Route, bool) = fills.Serve
	_ func(*rib.Rib, queue.Queue) bool                                = fills.Clean
	_ func(*rib.Rib, queue.Queue) queue.Queue                         = fills.Renew
	_ func(hier.Config) *hier.Hier                                    = hier.New
	_ interface {
		Lookup(api.Addr) (api.Route, bool, int)
		Add(api.Prefix, int) (api.Errno, []api.Route)
		Withdraw(api.Prefix) (api.Errno, []api.Route)
		Pick(int) hier.Report
		Soft(api.Route) bool
		Evict(api.Prefix) bool
		Tick()
		Count(k, n int)
		Routes() *rib.Rib
		Residents() ([]api.Route, []api.Prefix)
		Waits() queue.Queue
		Stats() stats.Stats
	} = (*hier.Hier)(nil)
	_ func(*rib.Rib, api.Prefix, int) []api.Route           = prefetch.Beside
	_ func(*hier.Hier, api.Prefix, int) []api.Route         = prefetch.Fetch
	_ func(*hier.Hier, int, int) (hier.Report, []api.Route) = prefetch.Pick
)

var (
	_ func([]byte) uint16                                  = sums.Sum
	_ func([]byte) bool                                    = sums.Check
	_ func(uint16, uint16, uint16) uint16                  = sums.Patch
	_ func([]byte, int) ([]byte, bool)                     = sums.Fill
	_ func(uint16, uint16) uint16                          = sums.Add
	_ func([]byte) (ipv4.Head, int)                        = ipv4.Parse
	_ func([]byte) ([]byte, bool)                          = ipv4.Hop
	_ func(ipv4.Head, []byte) []byte                       = ipv4.Build
	_ func([]byte) (ipv6.Head, int)                        = ipv6.Parse
	_ func([]byte) ([]byte, bool)                          = ipv6.Hop
	_ func(ipv6.Head, []byte) []byte                       = ipv6.Build
	_ func(*hier.Hier, []byte) forward.Verdict             = forward.Decide
	_ func([]byte) (api.Addr, int, int)                    = forward.Target
	_ func([]forward.Port, forward.Verdict) []forward.Port = forward.Account
	_ func([]forward.Port) bool                            = forward.Sane
	_ func([]byte) (script.Config, []script.Step)          = script.Decode
	_ func(script.Config, []script.Step) []byte            = script.Encode
	_ func(script.Config, []script.Step) bool              = script.Fits
	_ func(int) string                                     = script.Name
	_ func(script.Config) *engine.Engine                   = engine.New
	_ interface {
		Step(script.Step) engine.Answer
		Hier() *hier.Hier
	} = (*engine.Engine)(nil)
	_ func([]byte) []engine.Answer                                         = engine.Run
	_ func(script.Config, []script.Step) (*engine.Engine, []engine.Answer) = engine.Play
)
