package recency

import (
	"maps"
	"math"
	"slices"
	"testing"

	"kedge/api"
	"kedge/onpaper"
)

// The tests hold the package against orders that are written out by hand, and against a model: a map that tells of each number that is there the turn in which it was touched last; the order is found by sorting.

type model struct {
	most  int
	turns map[int]int
	turn  int
}

func newModel(most int) *model {
	return &model{most: min(max(most, 0), 1024), turns: map[int]int{}}
}

func (m *model) touch(i int) bool {
	if i < 0 || i >= m.most {
		return false
	}
	m.turn++
	m.turns[i] = m.turn
	return true
}

func (m *model) drop(i int) bool {
	_, ok := m.turns[i]
	delete(m.turns, i)
	return ok
}

func (m *model) order() []int {
	return slices.SortedFunc(maps.Keys(m.turns), func(i, j int) int { return m.turns[j] - m.turns[i] })
}

// never are numbers that may not be, where there are most of them.
func never(most int) []int {
	return []int{math.MinInt, math.MinInt + 1, -1 << 32, -1025, -1024, -2, -1, most, most + 1, most + 2, most + 1024, 1 << 16, 1 << 32, math.MaxInt - 1, math.MaxInt}
}

// wantOrder: just these are there, in this order; most may be.
func wantOrder(t *testing.T, l *List, most int, want ...int) {
	t.Helper()
	if got := l.Order(); !slices.Equal(got, want) {
		t.Errorf("Order = %v, not %v", got, want)
	}
	if l.Len() != len(want) {
		t.Errorf("Len = %d, not %d", l.Len(), len(want))
	}
	last := 0
	for _, i := range want {
		last = i
	}
	if i, ok := l.Last(); i != last || ok != (len(want) > 0) {
		t.Errorf("Last = %d, %v, of %v", i, ok, want)
	}
	there := map[int]bool{}
	for _, i := range want {
		there[i] = true
	}
	for i := range most {
		if l.Has(i) != there[i] {
			t.Errorf("Has(%d) = %v, of %v", i, l.Has(i), want)
		}
	}
	for _, i := range never(most) {
		if l.Has(i) {
			t.Errorf("Has(%d), of %d numbers", i, most)
		}
	}
}

// touched touches these, which may be.
func touched(t *testing.T, l *List, numbers ...int) {
	t.Helper()
	for _, i := range numbers {
		if !l.Touch(i) {
			t.Errorf("Touch(%d) is false", i)
		}
	}
}

// dropped drops these, which are there.
func dropped(t *testing.T, l *List, numbers ...int) {
	t.Helper()
	for _, i := range numbers {
		if !l.Drop(i) {
			t.Errorf("Drop(%d) is false", i)
		}
	}
}

// wantNothing: neither a Touch of these, which may not be, nor a Drop does anything.
func wantNothing(t *testing.T, l *List, numbers ...int) {
	t.Helper()
	before := l.Order()
	for _, i := range numbers {
		if l.Touch(i) {
			t.Errorf("Touch(%d) is true", i)
		}
		wantAbsent(t, l, i)
	}
	if !slices.Equal(l.Order(), before) {
		t.Errorf("Order = %v, not %v", l.Order(), before)
	}
}

// wantAbsent: these, which are not there, are not dropped.
func wantAbsent(t *testing.T, l *List, numbers ...int) {
	t.Helper()
	before := l.Order()
	for _, i := range numbers {
		if l.Has(i) || l.Drop(i) || l.Has(i) {
			t.Errorf("%d is there, or Drop of it is true", i)
		}
	}
	if !slices.Equal(l.Order(), before) || l.Len() != len(before) {
		t.Errorf("Order, Len = %v, %d, not %v", l.Order(), l.Len(), before)
	}
}

// used is a list of most numbers, of which these were touched.
func used(t *testing.T, most int, numbers ...int) *List {
	t.Helper()
	l := New(most)
	touched(t, l, numbers...)
	return l
}

// rising are 0 to n - 1.
func rising(n int) []int {
	var l []int
	for i := range n {
		l = append(l, i)
	}
	return l
}

// falling are n - 1 to 0.
func falling(n int) []int {
	l := rising(n)
	slices.Reverse(l)
	return l
}

// P10.1

func TestNew(t *testing.T) {
	for most, want := range map[int]int{
		math.MinInt: 0, -1 << 32: 0, -1025: 0, -1024: 0, -2: 0, -1: 0, 0: 0,
		1: 1, 2: 2, 3: 3, 64: 64, 1023: 1023, 1024: 1024,
		1025: 1024, 1026: 1024, 2048: 1024, 1 << 16: 1024, 1 << 32: 1024, 1<<32 + 1: 1024, math.MaxInt: 1024,
	} {
		l := New(most)
		wantOrder(t, l, want)
		wantNothing(t, l, never(want)...)
		wantAbsent(t, l, rising(want)...)
		touched(t, l, rising(want)...)
		wantOrder(t, l, want, falling(want)...)
		wantNothing(t, l, never(want)...)
		dropped(t, l, rising(want)...)
		wantOrder(t, l, want)
		if t.Failed() {
			t.Fatal("New", most)
		}
	}
	if api.MaxSlots != 1024 {
		t.Error(api.MaxSlots)
	}
}

func TestOfNone(t *testing.T) {
	for _, most := range []int{math.MinInt, -1, 0} {
		l := New(most)
		for range 3 {
			wantNothing(t, l, 0, 1)
			wantNothing(t, l, never(0)...)
			wantOrder(t, l, 0)
		}
	}
}

func TestOfOne(t *testing.T) {
	l := New(1)
	for range 3 {
		wantOrder(t, l, 1)
		wantAbsent(t, l, 0)
		touched(t, l, 0)
		wantOrder(t, l, 1, 0)
		touched(t, l, 0, 0)
		wantOrder(t, l, 1, 0)
		wantNothing(t, l, never(1)...)
		dropped(t, l, 0)
	}
}

// Of 0 to 6, all but 0 and 5 are there: what becomes of 6, 4, 3, 2, 1.
func TestTouch(t *testing.T) {
	for _, c := range []struct {
		i    int
		want []int
	}{
		{6, []int{6, 4, 3, 2, 1}}, // the first one
		{4, []int{4, 6, 3, 2, 1}}, // those between
		{3, []int{3, 6, 4, 2, 1}},
		{2, []int{2, 6, 4, 3, 1}},
		{1, []int{1, 6, 4, 3, 2}},    // the last one
		{0, []int{0, 6, 4, 3, 2, 1}}, // those that are not there
		{5, []int{5, 6, 4, 3, 2, 1}},
	} {
		l := used(t, 7, 1, 2, 3, 4, 6)
		for range 3 { // once it is the first one it stays so
			touched(t, l, c.i)
			wantOrder(t, l, 7, c.want...)
		}
	}
}

func TestTouchOfWhatMayNotBe(t *testing.T) {
	l := used(t, 4, 2, 0, 1)
	for range 2 {
		wantNothing(t, l, never(4)...)
		wantOrder(t, l, 4, 1, 0, 2)
	}
	touched(t, l, 3) // the greatest one may be
	wantNothing(t, l, never(4)...)
	wantOrder(t, l, 4, 3, 1, 0, 2)
}

func TestDrop(t *testing.T) {
	for _, c := range []struct {
		i    int
		want []int
	}{
		{6, []int{4, 3, 2, 1}}, // the first one
		{4, []int{6, 3, 2, 1}}, // those between
		{3, []int{6, 4, 2, 1}},
		{2, []int{6, 4, 3, 1}},
		{1, []int{6, 4, 3, 2}}, // the last one
	} {
		l := used(t, 7, 1, 2, 3, 4, 6)
		dropped(t, l, c.i)
		wantOrder(t, l, 7, c.want...)
		for range 2 { // those that were dropped already, that never were there, that may not be
			wantAbsent(t, l, c.i, 0, 5)
			wantAbsent(t, l, never(7)...)
			wantOrder(t, l, 7, c.want...)
		}
		touched(t, l, c.i) // it is the first one, wherever it was
		wantOrder(t, l, 7, slices.Concat([]int{c.i}, c.want)...)
	}
}

func TestDropOfTheOnlyOne(t *testing.T) {
	for most := range 4 {
		for i := range most {
			l := New(most)
			for range 3 {
				touched(t, l, i)
				wantOrder(t, l, most, i)
				dropped(t, l, i)
				wantOrder(t, l, most)
				wantAbsent(t, l, i)
				wantOrder(t, l, most)
			}
			touched(t, l, falling(most)...)
			wantOrder(t, l, most, rising(most)...)
		}
	}
}

func TestDropOfAll(t *testing.T) {
	l := used(t, 5, 3, 1, 4, 0, 2)
	for _, c := range []struct {
		i    int
		want []int
	}{
		{0, []int{2, 4, 1, 3}}, {2, []int{4, 1, 3}}, {3, []int{4, 1}}, {4, []int{1}}, {1, nil},
	} {
		dropped(t, l, c.i)
		wantOrder(t, l, 5, c.want...)
	}
	wantAbsent(t, l, rising(5)...)
	touched(t, l, 2, 0)
	wantOrder(t, l, 5, 0, 2)
}

// P10.2

func TestExample(t *testing.T) {
	l := New(4)
	for _, c := range []struct {
		i    int
		want []int
	}{
		{1, []int{1}}, {2, []int{2, 1}}, {3, []int{3, 2, 1}}, {1, []int{1, 3, 2}},
	} {
		touched(t, l, c.i)
		wantOrder(t, l, 4, c.want...)
	}
}

// None, one, some and all.
func TestLastAndOrder(t *testing.T) {
	l := New(4)
	wantOrder(t, l, 4)
	touched(t, l, 3)
	wantOrder(t, l, 4, 3)
	touched(t, l, 0)
	wantOrder(t, l, 4, 0, 3)
	touched(t, l, 2)
	wantOrder(t, l, 4, 2, 0, 3)
	touched(t, l, 1)
	wantOrder(t, l, 4, 1, 2, 0, 3)
	dropped(t, l, 3)
	wantOrder(t, l, 4, 1, 2, 0)
	touched(t, l, 0)
	wantOrder(t, l, 4, 0, 1, 2)
}

// The number 0, last of some, is not none.
func TestLastIsZero(t *testing.T) {
	l := used(t, 3, 0, 2)
	if i, ok := l.Last(); i != 0 || !ok {
		t.Error(i, ok)
	}
	dropped(t, l, 0)
	if i, ok := l.Last(); i != 2 || !ok {
		t.Error(i, ok)
	}
	dropped(t, l, 2)
	if i, ok := l.Last(); i != 0 || ok {
		t.Error(i, ok)
	}
}

// The last one goes again and again, as where something has to go that was used longest ago.
func TestLastGoes(t *testing.T) {
	l := used(t, 6, 4, 2, 5, 0, 3, 1)
	touched(t, l, 2, 4)
	for _, want := range []int{5, 0, 3, 1, 2, 4} {
		i, ok := l.Last()
		if i != want || !ok {
			t.Errorf("Last = %d, %v, not %d", i, ok, want)
		}
		dropped(t, l, i)
	}
	wantOrder(t, l, 6)
}

// What is told alone changes nothing.
func TestAskedOften(t *testing.T) {
	l := used(t, 5, 0, 3, 1)
	for range 3 {
		for i := -1; i <= 5; i++ {
			l.Has(i)
		}
		l.Last()
		l.Order()
		l.Len()
		wantOrder(t, l, 5, 1, 3, 0)
	}
}

// What was answered is not changed by what is done behind it.
func TestAnswered(t *testing.T) {
	l := used(t, 4, 0, 1, 2)
	first := l.Order()
	touched(t, l, 0)
	second := l.Order()
	dropped(t, l, 1, 2, 0)
	touched(t, l, 3)
	third := l.Order()
	if !slices.Equal(first, []int{2, 1, 0}) || !slices.Equal(second, []int{0, 2, 1}) || !slices.Equal(third, []int{3}) {
		t.Error(first, second, third)
	}
	third[0] = 1
	wantOrder(t, l, 4, 3)
}

// Two of them have nothing in common.
func TestTwoOfThem(t *testing.T) {
	x, y := used(t, 3, 0, 1), used(t, 4, 3, 1, 2)
	dropped(t, y, 1)
	touched(t, x, 2, 0)
	wantNothing(t, x, 3)
	wantOrder(t, x, 3, 0, 2, 1)
	wantOrder(t, y, 4, 2, 3)
}

// P10.3

func TestNotMadeByNew(t *testing.T) {
	for name, l := range map[string]*List{"nil": nil, "zero": new(List), "none": New(0)} {
		for range 2 {
			wantNothing(t, l, 0, 1, 1023, 1024)
			wantNothing(t, l, never(0)...)
			wantOrder(t, l, 0)
		}
		if t.Failed() {
			t.Fatal(name)
		}
	}
}

// P10.4

// others are those that are there, in order, without one.
func others(l *List, i int) []int {
	return slices.DeleteFunc(l.Order(), func(j int) bool { return j == i })
}

// each shows every order of n numbers.
func each(n int, see func(order []int)) {
	var order []int
	var further func()
	further = func() {
		if len(order) == n {
			see(order)
			return
		}
		for i := range n {
			if !slices.Contains(order, i) {
				order = append(order, i)
				further()
				order = order[:len(order)-1]
			}
		}
	}
	further()
}

// Whatever is touched or dropped, in whatever order they are, the others are as they were.
func TestOthersKeepTheirOrder(t *testing.T) {
	for n := range 6 {
		each(n, func(order []int) {
			for i := -1; i <= n+1; i++ { // n is not there; -1 and n + 1 may not be
				x, y := used(t, n+1, order...), used(t, n+1, order...)
				before := others(x, i)
				x.Touch(i)
				y.Drop(i)
				if !slices.Equal(others(x, i), before) || !slices.Equal(others(y, i), before) {
					t.Fatalf("of %v, Touch(%d) makes %v, Drop %v", order, i, x.Order(), y.Order())
				}
			}
		})
	}
}

// do touches or drops a number, here and in the model, and holds what is answered and what comes of it against each other.
func do(t *testing.T, l *List, m *model, drop bool, i int) {
	t.Helper()
	name, got, want := "Touch", l.Touch, m.touch
	if drop {
		name, got, want = "Drop", l.Drop, m.drop
	}
	before := others(l, i)
	if x, y := got(i), want(i); x != y {
		t.Errorf("%s(%d) = %v, of %d", name, i, x, m.most)
	}
	if behind := others(l, i); !slices.Equal(behind, before) {
		t.Errorf("%s(%d) makes %v of %v", name, i, behind, before)
	}
}

// All that can be done with few numbers, in every order, up to so many turns.
func TestEveryOrder(t *testing.T) {
	for most, turns := range map[int]int{0: 3, 1: 6, 2: 5, 3: 5, 4: 4} {
		var done []int // 2i touches i, 2i + 1 drops it
		var further func()
		further = func() {
			l, m := New(most), newModel(most)
			for _, what := range done {
				do(t, l, m, what%2 == 1, what/2)
			}
			wantOrder(t, l, most, m.order()...)
			if t.Failed() {
				t.Fatal(most, done)
			}
			for what := 0; what < 2*(most+1) && len(done) < turns; what++ { // most itself may not be
				done = append(done, what)
				further()
				done = done[:len(done)-1]
			}
		}
		further()
	}
}

// An order of any kind, in which more comes than goes at first, and less then.
func TestAnyOrder(t *testing.T) {
	for seed, given := range []int{-1, 0, 1, 2, 3, 5, 8, 50, 300, 1024, 5000} {
		const turns = 2000
		l, m, mix := New(given), newModel(given), onpaper.Mixer(seed)
		for turn := range turns {
			goes := 1 + 6*(turn*4/turns%2)
			do(t, l, m, mix.Below(8) < goes, mix.Below(m.most+4)-2)
			if turn%17 == 0 || m.most < 10 {
				wantOrder(t, l, m.most, m.order()...)
			}
			if t.Failed() {
				t.Fatal("seed", seed, "most", given, "turn", turn)
			}
		}
		wantOrder(t, l, m.most, m.order()...)
	}
}

// As many as may be, each touched, dropped and touched again.
func TestMany(t *testing.T) {
	l, want := New(math.MaxInt), []int{}
	for k := range api.MaxSlots {
		i := k * 389 % api.MaxSlots // each once
		touched(t, l, i)
		want = append(want, i)
	}
	slices.Reverse(want)
	wantOrder(t, l, api.MaxSlots, want...)
	touched(t, l, want...)
	slices.Reverse(want)
	wantOrder(t, l, api.MaxSlots, want...)
	for k := range api.MaxSlots {
		if k%2 == 0 {
			dropped(t, l, want[k])
		}
	}
	odd := slices.DeleteFunc(slices.Clone(want), func(i int) bool { return slices.Index(want, i)%2 == 0 })
	wantOrder(t, l, api.MaxSlots, odd...)
	touched(t, l, rising(api.MaxSlots)...)
	wantOrder(t, l, api.MaxSlots, falling(api.MaxSlots)...)
}
