package sketch

import (
	"hash/fnv"
	"math"
	"slices"
	"testing"

	"kedge/api"
	"kedge/onpaper"
	"kedge/written"
)

// The tests hold the package against hashes and counts that are written out by hand (the hashes were reckoned elsewhere), and against a model: a map of how often each place was counted, found by the library's FNV-1a of a prefix's digits written out as text.

type place struct{ row, at int }

type model struct {
	rows, width int
	counts      map[place]int
	added       map[api.Prefix]int // how often, since the last decay
}

func newModel(rows, width int) *model {
	return &model{
		rows: min(max(rows, 1), 4), width: min(max(width, 1), 256),
		counts: map[place]int{}, added: map[api.Prefix]int{},
	}
}

// hashed is what the chapter says of Hash.
func hashed(row int, p api.Prefix) uint64 {
	h := fnv.New64a()
	h.Write([]byte{byte(max(row, 0) % 256)})
	h.Write(onpaper.Laid(p))
	return h.Sum64()
}

func (m *model) places(p api.Prefix) []place {
	if !onpaper.MayBe(p) {
		return nil
	}
	var l []place
	for row := range m.rows {
		l = append(l, place{row, int(hashed(row, p) % uint64(m.width))})
	}
	return l
}

func (m *model) add(p api.Prefix) bool {
	if !onpaper.MayBe(p) {
		return false
	}
	for _, at := range m.places(p) {
		if m.counts[at] < 255 {
			m.counts[at]++
		}
	}
	m.added[p]++
	return true
}

func (m *model) count(p api.Prefix) int {
	var l []int
	for _, at := range m.places(p) {
		l = append(l, m.counts[at])
	}
	if len(l) == 0 {
		return 0
	}
	return slices.Min(l)
}

func (m *model) decay() {
	for at, n := range m.counts {
		m.counts[at] = int(math.Floor(float64(n) / 2))
	}
	clear(m.added)
}

func (m *model) all() [][]int {
	var rows [][]int
	for row := range m.rows {
		var counts []int
		for at := range m.width {
			counts = append(counts, m.counts[place{row, at}])
		}
		rows = append(rows, counts)
	}
	return rows
}

// wantRows: just these are the counts.
func wantRows(t *testing.T, s *Sketch, want [][]int) {
	t.Helper()
	if got := s.Rows(); !slices.EqualFunc(got, want, slices.Equal) {
		t.Errorf("Rows = %v, not %v", got, want)
	}
}

// wantSame: the counts are the model's, and none of those that were added is counted less often than it was.
func wantSame(t *testing.T, s *Sketch, m *model) {
	t.Helper()
	wantRows(t, s, m.all())
	for p, n := range m.added {
		if got := s.Count(p); got < min(n, 255) {
			t.Errorf("Count(%v) = %d, added %d times", p, got, n)
		}
	}
}

// wantCount: each of these is counted so often.
func wantCount(t *testing.T, s *Sketch, want int, l ...api.Prefix) {
	t.Helper()
	for _, p := range l {
		if got := s.Count(p); got != want {
			t.Errorf("Count(%v) = %d, not %d", p, got, want)
		}
	}
}

// add adds each of these so often; they may be.
func add(t *testing.T, s *Sketch, often int, l ...api.Prefix) {
	t.Helper()
	for _, p := range l {
		for range often {
			if !s.Add(p) {
				t.Errorf("Add(%v) is false", p)
			}
		}
	}
}

// wantNothing: none of these, which may not be, is added or counted.
func wantNothing(t *testing.T, s *Sketch, l ...api.Prefix) {
	t.Helper()
	before := s.Rows()
	for _, p := range l {
		if s.Add(p) {
			t.Errorf("Add(%v) is true", p)
		}
		wantCount(t, s, 0, p)
	}
	wantRows(t, s, before)
}

// lengths are prefixes of both kinds and of every length.
func lengths() []api.Prefix {
	var l []api.Prefix
	for _, v6 := range []bool{false, true} {
		for n := range onpaper.Width(v6) + 1 {
			l = append(l, onpaper.Cut(0xC1A3957B0D2F4E68, 0x9D5B7F31E2C48A61, n, v6), onpaper.Cut(math.MaxUint64, math.MaxUint64, n, v6), onpaper.Cut(0, 0, n, v6))
		}
	}
	return l
}

// blank are counts of 0.
func blank(rows, width int) [][]int { return newModel(rows, width).all() }

var p10, p11, p12, p16, p24 = written.Prefix("10.0.0.0/8"), written.Prefix("11.0.0.0/8"), written.Prefix("12.0.0.0/8"), written.Prefix("16.0.0.0/8"), written.Prefix("24.0.0.0/8")

// P11.1

func TestHashByHand(t *testing.T) {
	for _, c := range []struct {
		row  int
		p    string
		want uint64
	}{
		{0, "0.0.0.0/0", 15654365075073114899}, // of no digits
		{1, "0.0.0.0/0", 15030199811693061224},
		{0, "::/0", 15652451924840406209},
		{0, "10.0.0.0/8", 3069960157833535891},
		{1, "10.0.0.0/8", 9973705671899698286},
		{3, "10.0.0.0/8", 1144253539178697596},
		{255, "10.0.0.0/8", 5089070209563974840},
		{0, "10.128.0.0/9", 11628321416131933250},
		{2, "192.168.1.1/32", 8150886734033699051}, // of all digits
		{0, "255.255.255.255/32", 4982022022347216063},
		{0, "a00::/8", 1806328827258271865},
		{0, "2001:db8::/32", 12554370588017024411},
		{7, "2001:db8:8::/45", 3636992420426071297},
		{1, "2001:db8::1/128", 1865190309791857675},
	} {
		if got := Hash(c.row, written.Prefix(c.p)); got != c.want {
			t.Errorf("Hash(%d, %s) = %d, not %d", c.row, c.p, got, c.want)
		}
	}
}

// A row is counted modulo 256; of one below 0 it is that of 0, not that of what is left of it.
func TestHashOfRow(t *testing.T) {
	for row, as := range map[int]int{
		math.MinInt: 0, math.MinInt + 1: 0, -1 << 32: 0, -513: 0, -257: 0, -256: 0, -255: 0, -128: 0, -2: 0, -1: 0,
		0: 0, 1: 1, 2: 2, 127: 127, 128: 128, 254: 254, 255: 255,
		256: 0, 257: 1, 258: 2, 511: 255, 512: 0, 65535: 255, 65536: 0, 1 << 32: 0, 1<<32 + 3: 3, math.MaxInt - 1: 254, math.MaxInt: 255,
	} {
		for _, p := range append(lengths(), onpaper.Wrong()...) {
			if Hash(row, p) != hashed(as, p) {
				t.Fatalf("Hash(%d, %v) = %d, not that of %d", row, p, Hash(row, p), as)
			}
		}
	}
}

func TestHashOfEveryRowAndLength(t *testing.T) {
	for row := range 256 {
		for _, p := range lengths() {
			if got := Hash(row, p); got != hashed(row, p) {
				t.Fatalf("Hash(%d, %v) = %d, not %d", row, p, got, hashed(row, p))
			}
		}
	}
}

// Nothing is put of a prefix that may not be: its hash is that of the row alone.
func TestHashOfWhatMayNotBe(t *testing.T) {
	for _, p := range onpaper.Wrong() {
		if Hash(0, p) != 12638153115695167455 || Hash(-9, p) != 12638153115695167455 || Hash(255, p) != 12638352127299873646 {
			t.Errorf("Hash(0, %v), Hash(-9), Hash(255) = %d, %d, %d", p, Hash(0, p), Hash(-9, p), Hash(255, p))
		}
	}
}

// A prefix's kind, its N and its digits, and the row, are all in it: none is alike here.
func TestHashesAreUnlike(t *testing.T) {
	seen := map[uint64]bool{}
	l := lengths()
	slices.SortFunc(l, onpaper.Compare)
	l = slices.Compact(l)
	for row := range 256 {
		for _, p := range l {
			seen[Hash(row, p)] = true
		}
	}
	if len(seen) != 256*len(l) {
		t.Errorf("%d of %d", len(seen), 256*len(l))
	}
}

// P11.2

func TestNew(t *testing.T) {
	given := []int{math.MinInt, -1 << 32, -255, -1, 0, 1, 2, 3, 4, 5, 6, 7, 64, 100, 254, 255, 256, 257, 258, 512, 1 << 16, 1 << 32, 1<<32 + 2, math.MaxInt}
	for _, rows := range given {
		for _, width := range given {
			s := New(rows, width)
			wantRows(t, s, blank(rows, width))
			wantCount(t, s, 0, lengths()[:20]...)
			s.Decay()
			wantRows(t, s, blank(rows, width))
			wantNothing(t, s, onpaper.Wrong()[:6]...)
			if t.Failed() {
				t.Fatal("New", rows, width)
			}
		}
	}
}

func TestNewByHand(t *testing.T) {
	for _, c := range []struct{ rows, width, want, wide int }{
		{math.MinInt, math.MinInt, 1, 1}, {-1, -1, 1, 1}, {0, 0, 1, 1}, {1, 1, 1, 1},
		{2, 64, 2, 64}, {3, 3, 3, 3}, {4, 255, 4, 255}, {4, 256, 4, 256},
		{5, 257, 4, 256}, {0, 257, 1, 256}, {5, 0, 4, 1}, {math.MaxInt, math.MaxInt, 4, 256},
	} {
		l := New(c.rows, c.width).Rows()
		if len(l) != c.want {
			t.Errorf("New(%d, %d) has %d rows, not %d", c.rows, c.width, len(l), c.want)
		}
		for _, row := range l {
			if len(row) != c.wide || slices.Max(row) != 0 || slices.Min(row) != 0 {
				t.Errorf("New(%d, %d) has a row %v", c.rows, c.width, row)
			}
		}
	}
}

// Where a prefix is counted in rows of several widths.
func TestPlaces(t *testing.T) {
	for width, want := range map[int][2][4]int{ // of 10.0.0.0/8, of 2001:db8::/32
		1:   {{0, 0, 0, 0}, {0, 0, 0, 0}},
		2:   {{1, 0, 1, 0}, {1, 0, 1, 0}},
		3:   {{1, 2, 0, 2}, {2, 2, 1, 2}},
		4:   {{3, 2, 1, 0}, {3, 0, 1, 2}},
		5:   {{1, 1, 2, 1}, {1, 4, 1, 0}},
		7:   {{1, 5, 1, 5}, {1, 5, 5, 4}},
		100: {{91, 86, 37, 96}, {11, 84, 41, 30}},
		255: {{121, 251, 252, 191}, {11, 14, 76, 125}},
		256: {{147, 110, 177, 124}, {155, 184, 29, 50}},
	} {
		for k, p := range written.Prefixes("10.0.0.0/8 2001:db8::/32") {
			for rows := 1; rows <= 4; rows++ {
				s, counts := New(rows, width), blank(rows, width)
				for row := range rows {
					counts[row][want[k][row]] = 2
				}
				add(t, s, 2, p)
				wantRows(t, s, counts)
				wantCount(t, s, 2, p)
			}
		}
	}
}

// The least of its counts: in rows of 3, 10.0.0.0/8 is alike with 12.0.0.0/8 in the first row alone, with 24.0.0.0/8 in the first two, with 16.0.0.0/8 in the last two alone; with 11.0.0.0/8 in none.
func TestLeast(t *testing.T) {
	s := New(4, 3)
	add(t, s, 5, p12)
	wantRows(t, s, [][]int{{0, 5, 0}, {0, 5, 0}, {0, 0, 5}, {5, 0, 0}})
	wantCount(t, s, 0, p10)
	add(t, s, 2, p10)
	wantRows(t, s, [][]int{{0, 7, 0}, {0, 5, 2}, {2, 0, 5}, {5, 0, 2}})
	wantCount(t, s, 2, p10)
	wantCount(t, s, 5, p12)
	wantCount(t, s, 0, p11)
	add(t, s, 1, p16)
	wantRows(t, s, [][]int{{1, 7, 0}, {1, 5, 2}, {3, 0, 5}, {5, 0, 3}})
	wantCount(t, s, 1, p16)
	wantCount(t, s, 2, p10, p24) // 24.0.0.0/8 was never added
	add(t, s, 1, p24)
	wantRows(t, s, [][]int{{1, 8, 0}, {1, 5, 3}, {3, 0, 6}, {6, 0, 3}})
	wantCount(t, s, 3, p10, p24)
	wantCount(t, s, 1, p11) // nor was 11.0.0.0/8
	s.Decay()
	wantRows(t, s, [][]int{{0, 4, 0}, {0, 2, 1}, {1, 0, 3}, {3, 0, 1}})
	wantCount(t, s, 1, p10, p24)
	wantCount(t, s, 2, p12)
	wantCount(t, s, 0, p11, p16)
}

// The least is told in whichever row it lies.
func TestLeastInEachRow(t *testing.T) {
	for least := range 4 {
		s, m := New(4, 256), newModel(4, 256)
		add(t, s, 3, p10)
		for k := range 1 << 12 { // others, until all rows but this one have more
			q := onpaper.Cut(uint64(k)<<52, 0, 12, false)
			alike := false
			for row, at := range m.places(q) {
				alike = alike || row != least && at == m.places(p10)[row]
			}
			if alike && m.places(q)[least] != m.places(p10)[least] {
				add(t, s, 1, q)
			}
		}
		for row, at := range m.places(p10) {
			if n := s.Rows()[row][at.at]; (n == 3) != (row == least) {
				t.Errorf("row %d counts %d, the least is row %d", row, n, least)
			}
		}
		wantCount(t, s, 3, p10)
	}
}

// In rows of width 1 all that may be are one.
func TestWidthOfOne(t *testing.T) {
	for rows := 1; rows <= 4; rows++ {
		s := New(rows, 0)
		for k, p := range lengths()[:200] {
			wantCount(t, s, k, p)
			add(t, s, 1, p)
			wantCount(t, s, k+1, p)
			wantCount(t, s, k+1, p10, written.Prefix("::1/128"), api.Prefix{})
		}
		wantNothing(t, s, onpaper.Wrong()...)
		for _, row := range s.Rows() {
			if !slices.Equal(row, []int{200}) {
				t.Error(row)
			}
		}
	}
}

func TestWhatMayNotBe(t *testing.T) {
	for _, width := range []int{1, 2, 64, 256} {
		s, m := New(4, width), newModel(4, width)
		for range 3 {
			wantNothing(t, s, onpaper.Wrong()...)
			wantSame(t, s, m)
			for _, p := range lengths() {
				add(t, s, 1, p)
				m.add(p)
			}
			wantNothing(t, s, onpaper.Wrong()...)
			wantSame(t, s, m)
			s.Decay()
			m.decay()
		}
	}
}

// A prefix with the same first digits, of other length or of the other kind, is another one.
func TestOtherKindAndLength(t *testing.T) {
	l := written.Prefixes("10.0.0.0/8 a00::/8 10.0.0.0/9 10.0.0.0/32 a00::/128 0.0.0.0/0 ::/0")
	s := New(4, 256)
	for k, p := range l {
		wantCount(t, s, 0, p)
		add(t, s, k+1, p)
	}
	for k, p := range l {
		wantCount(t, s, k+1, p)
	}
}

func TestMostCount(t *testing.T) {
	for _, c := range []struct{ rows, width int }{{1, 1}, {2, 64}, {3, 3}, {4, 256}} {
		s := New(c.rows, c.width)
		for n := range 600 {
			wantCount(t, s, min(n, 255), p10)
			add(t, s, 1, p10)
		}
		wantCount(t, s, 255, p10)
		for _, row := range s.Rows() {
			if slices.Max(row) != 255 {
				t.Error(row)
			}
		}
	}
}

// A count that has reached the most does not keep the others from being more: 10.0.0.0/8 and 12.0.0.0/8 are alike in the first row of 3 alone.
func TestMostCountInOneRow(t *testing.T) {
	s := New(2, 3)
	add(t, s, 254, p12)
	wantRows(t, s, [][]int{{0, 254, 0}, {0, 254, 0}})
	add(t, s, 1, p10)
	wantRows(t, s, [][]int{{0, 255, 0}, {0, 254, 1}})
	add(t, s, 1, p10)
	wantRows(t, s, [][]int{{0, 255, 0}, {0, 254, 2}})
	add(t, s, 1, p12)
	wantRows(t, s, [][]int{{0, 255, 0}, {0, 255, 2}})
	add(t, s, 9, p12)
	wantRows(t, s, [][]int{{0, 255, 0}, {0, 255, 2}})
	wantCount(t, s, 2, p10)
	wantCount(t, s, 255, p12)
	s.Decay()
	wantRows(t, s, [][]int{{0, 127, 0}, {0, 127, 1}})
}

// Of each count that may be, the half.
func TestDecay(t *testing.T) {
	for n := range 256 {
		s := New(2, 2)
		add(t, s, n, p10)
		want := n
		for range 9 {
			wantRows(t, s, [][]int{{0, want}, {want, 0}})
			wantCount(t, s, want, p10)
			s.Decay()
			want = (want - want%2) / 2
		}
		wantRows(t, s, blank(2, 2))
	}
}

func TestDecayByHand(t *testing.T) {
	s := New(1, 1)
	add(t, s, 255, p10)
	for _, want := range []int{127, 63, 31, 15, 7, 3, 1, 0, 0, 0} {
		s.Decay()
		wantCount(t, s, want, p10)
	}
	for _, c := range []struct{ added, want, behind int }{{0, 0, 0}, {1, 1, 0}, {2, 2, 1}, {3, 4, 2}, {9, 11, 5}, {250, 255, 127}, {1, 128, 64}} {
		add(t, s, c.added, p10)
		wantCount(t, s, c.want, p10)
		s.Decay()
		wantCount(t, s, c.behind, p10)
	}
}

// What is told alone changes nothing.
func TestAskedOften(t *testing.T) {
	s := New(2, 4)
	add(t, s, 3, p10)
	for range 3 {
		s.Count(p10)
		s.Count(p11)
		s.Rows()
		Hash(0, p10)
		wantNothing(t, s, onpaper.Wrong()...)
		wantRows(t, s, [][]int{{0, 0, 0, 3}, {0, 0, 3, 0}})
	}
}

// What was answered is not changed by what is done behind it.
func TestAnswered(t *testing.T) {
	s := New(3, 2)
	first := s.Rows()
	add(t, s, 3, p10)
	second := s.Rows()
	s.Decay()
	third := s.Rows()
	add(t, s, 9, p10)
	for k, l := range [][][]int{first, second, third} {
		n := []int{0, 3, 1}[k]
		if want := [][]int{{0, n}, {n, 0}, {0, n}}; !slices.EqualFunc(l, want, slices.Equal) {
			t.Errorf("%v, not %v", l, want)
		}
	}
}

// Nor are the counts changed by what is done to an answer, or one of its rows by what is done to another one.
func TestAnswerIsNew(t *testing.T) {
	s := New(3, 2)
	add(t, s, 1, p10)
	l := s.Rows()
	l[0] = append(l[0], 7)
	l[0][0], l[1][1] = 8, 9
	if want := [][]int{{8, 1, 7}, {1, 9}, {0, 1}}; !slices.EqualFunc(l, want, slices.Equal) {
		t.Errorf("%v, not %v", l, want)
	}
	wantRows(t, s, [][]int{{0, 1}, {1, 0}, {0, 1}})
}

// Two of them have nothing in common.
func TestTwoOfThem(t *testing.T) {
	x, y := New(2, 2), New(2, 2)
	add(t, x, 4, p10)
	add(t, y, 1, p10)
	y.Decay()
	wantRows(t, x, [][]int{{0, 4}, {4, 0}})
	wantRows(t, y, blank(2, 2))
}

// P11.3

func TestNotMadeByNew(t *testing.T) {
	for name, s := range map[string]*Sketch{"nil": nil, "zero": new(Sketch)} {
		for range 2 {
			for _, p := range append(lengths(), onpaper.Wrong()...) {
				if s.Add(p) || s.Count(p) != 0 {
					t.Fatalf("of a %s one Add(%v), Count = %v, %d", name, p, s.Add(p), s.Count(p))
				}
			}
			s.Decay()
			if l := s.Rows(); len(l) != 0 {
				t.Errorf("of a %s one Rows = %v", name, l)
			}
		}
	}
}

// P11.4

func TestExample(t *testing.T) {
	for _, c := range []struct{ rows, width int }{{1, 1}, {1, 256}, {2, 64}, {3, 5}, {4, 256}} {
		s := New(c.rows, c.width)
		add(t, s, 3, p10)
		wantCount(t, s, 3, p10)
		s.Decay()
		wantCount(t, s, 1, p10)
	}
}

// Whatever else is added, however narrow the rows are.
func TestNeverLess(t *testing.T) {
	for _, c := range []struct{ rows, width int }{{1, 1}, {1, 7}, {2, 3}, {2, 64}, {3, 16}, {4, 2}, {4, 256}} {
		s := New(c.rows, c.width)
		for range 3 {
			added := map[api.Prefix]int{}
			for k, p := range lengths() {
				n := k * 37 % 300
				add(t, s, n, p)
				added[p] += n
			}
			for p, n := range added {
				if got := s.Count(p); got < min(n, 255) {
					t.Errorf("of %d rows of %d Count(%v) = %d, added %d times", c.rows, c.width, p, got, n)
				}
			}
			s.Decay()
		}
	}
}

// In any order, against the model. Some prefixes come often, and some of them may not be.
func TestAnyOrder(t *testing.T) {
	l, wrong := lengths(), onpaper.Wrong()
	for seed, c := range []struct{ rows, width int }{{-1, -1}, {1, 1}, {1, 2}, {2, 3}, {2, 64}, {3, 10}, {4, 255}, {4, 256}, {9, 999}} {
		s, m, mix := New(c.rows, c.width), newModel(c.rows, c.width), onpaper.Mixer(seed)
		some := func() api.Prefix {
			if mix.Below(10) == 0 {
				return wrong[mix.Below(len(wrong))]
			}
			return l[mix.Below(1+mix.Below(len(l)))]
		}
		for turn := range 1000 {
			p, q := some(), some()
			if mix.Below(100) == 0 {
				s.Decay()
				m.decay()
			}
			for range 1 + mix.Below(8) {
				if got, want := s.Add(p), m.add(p); got != want {
					t.Errorf("Add(%v) = %v", p, got)
				}
			}
			wantCount(t, s, m.count(p), p)
			wantCount(t, s, m.count(q), q)
			if turn%50 == 0 {
				wantSame(t, s, m)
			}
			if t.Failed() {
				t.Fatal("seed", seed, "rows", c.rows, "width", c.width, "turn", turn)
			}
		}
		wantSame(t, s, m)
	}
}
