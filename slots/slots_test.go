package slots

import (
	"fmt"
	"maps"
	"math"
	"slices"
	"testing"

	"kedge/api"
	"kedge/onpaper"
)

// The tests hold the package against what is written out by hand, and against a model: a map of the things that are there, and for each place the turn in which it was given back last; which one is taken next is sought among all places.

type model[T any] struct {
	most  int
	there map[int]T
	back  map[int]int // the turn, from 1 on
	turn  int
}

func newModel[T any](most int) *model[T] {
	return &model[T]{most: min(max(most, 0), 1024), there: map[int]T{}, back: map[int]int{}}
}

// next is the free place that was given back last; the least one, of those that never were.
func (m *model[T]) next() (int, bool) {
	best, ok := 0, false
	for i := range m.most {
		if _, there := m.there[i]; !there && (!ok || m.back[i] > m.back[best]) {
			best, ok = i, true
		}
	}
	return best, ok
}

func (m *model[T]) take(x T) (int, bool) {
	i, ok := m.next()
	if ok {
		m.there[i] = x
	}
	return i, ok
}

func (m *model[T]) give(i int) bool {
	_, ok := m.there[i]
	delete(m.there, i)
	if ok {
		m.turn++
		m.back[i] = m.turn
	}
	return ok
}

func (m *model[T]) swap(i int, x T) bool {
	_, ok := m.there[i]
	if ok {
		m.there[i] = x
	}
	return ok
}

// numbers are those of all places, and some that are no place's.
func numbers(most int) []int {
	l := []int{math.MinInt, -1 << 32, -1024, -2, -1, most, most + 1, most + 2, 1 << 10, 1 << 16, 1 << 32, math.MaxInt}
	for i := range most {
		l = append(l, i)
	}
	return l
}

// wantSame: whatever is asked, it is told as the model tells it.
func wantSame[T comparable](t *testing.T, s *Slots[T], m *model[T]) {
	t.Helper()
	used := slices.Sorted(maps.Keys(m.there))
	if s.Cap() != m.most || s.Len() != len(used) || !slices.Equal(s.Used(), used) {
		t.Errorf("Cap, Len, Used = %d, %d, %v, not %d, %d, %v", s.Cap(), s.Len(), s.Used(), m.most, len(used), used)
	}
	for _, i := range numbers(m.most) {
		want, there := m.there[i]
		if x, ok := s.At(i); x != want || ok != there {
			t.Errorf("At(%d) = %v, %v, not %v, %v", i, x, ok, want, there)
		}
	}
}

// wantTake: x comes to be in this place.
func wantTake[T comparable](t *testing.T, s *Slots[T], x T, want int) {
	t.Helper()
	if i, ok := s.Take(x); i != want || !ok {
		t.Errorf("Take(%v) = %d, %v, not %d, true", x, i, ok, want)
	}
	wantAt(t, s, want, x)
}

// wantFull: nothing is taken any more.
func wantFull[T any](t *testing.T, s *Slots[T], x T) {
	t.Helper()
	if i, ok := s.Take(x); i != 0 || ok {
		t.Errorf("Take(%v) = %d, %v, not 0, false", x, i, ok)
	}
}

// wantAt: x is in this place.
func wantAt[T comparable](t *testing.T, s *Slots[T], i int, x T) {
	t.Helper()
	if y, ok := s.At(i); y != x || !ok {
		t.Errorf("At(%d) = %v, %v, not %v, true", i, y, ok, x)
	}
}

// wantNothing: these numbers are of no thing, in any call.
func wantNothing[T comparable](t *testing.T, s *Slots[T], x T, l ...int) {
	t.Helper()
	var zero T
	for _, i := range l {
		if y, ok := s.At(i); y != zero || ok {
			t.Errorf("At(%d) = %v, %v", i, y, ok)
		}
		if s.Swap(i, x) {
			t.Errorf("Swap(%d) is true", i)
		}
		if s.Give(i) {
			t.Errorf("Give(%d) is true", i)
		}
		if y, ok := s.At(i); y != zero || ok {
			t.Errorf("behind it, At(%d) = %v, %v", i, y, ok)
		}
	}
}

// wantUsed: just these places have a thing.
func wantUsed[T any](t *testing.T, s *Slots[T], l ...int) {
	t.Helper()
	if !slices.Equal(s.Used(), l) || s.Len() != len(l) {
		t.Errorf("Used, Len = %v, %d, not %v, %d", s.Used(), s.Len(), l, len(l))
	}
}

// given gives these places back.
func given[T any](t *testing.T, s *Slots[T], l ...int) {
	t.Helper()
	for _, i := range l {
		if !s.Give(i) {
			t.Errorf("Give(%d) is false", i)
		}
	}
}

// filled has most places, the first ones of them with things.
func filled(t *testing.T, most, things int) *Slots[string] {
	t.Helper()
	s := New[string](most)
	for i := range things {
		wantTake(t, s, fmt.Sprint("thing ", i), i)
	}
	return s
}

// P9.1

func TestNew(t *testing.T) {
	for most, want := range map[int]int{
		math.MinInt: 0, -1025: 0, -1: 0, 0: 0, 1: 1, 2: 2, 3: 3, 1023: 1023, 1024: 1024, 1025: 1024, 1 << 16: 1024, 1 << 32: 1024, math.MaxInt: 1024,
	} {
		s := New[string](most)
		if s.Cap() != want {
			t.Errorf("Cap of New(%d) = %d, not %d", most, s.Cap(), want)
		}
		wantUsed(t, s)
		wantNothing(t, s, "x", numbers(want)...)
		for i := range want {
			wantTake(t, s, "x", i)
		}
		wantFull(t, s, "x")
		if s.Cap() != want || s.Len() != want {
			t.Errorf("of New(%d) all have a thing: Cap, Len = %d, %d, not %d", most, s.Cap(), s.Len(), want)
		}
	}
	if api.MaxSlots != 1024 {
		t.Error(api.MaxSlots)
	}
}

func TestOfNoPlace(t *testing.T) {
	for _, most := range []int{math.MinInt, -1, 0} {
		s := New[int](most)
		for range 3 {
			wantFull(t, s, 7)
			wantNothing(t, s, 7, numbers(0)...)
			wantSame(t, s, newModel[int](most))
		}
	}
}

func TestOfOnePlace(t *testing.T) {
	s := New[int](1)
	for k := range 3 {
		wantNothing(t, s, 7, numbers(1)...)
		wantTake(t, s, k, 0)
		wantFull(t, s, 7)
		wantUsed(t, s, 0)
		wantAt(t, s, 0, k)
		given(t, s, 0)
		wantUsed(t, s)
	}
}

func TestCapLenUsed(t *testing.T) {
	s := New[string](5)
	for i, want := range [][]int{{0}, {0, 1}, {0, 1, 2}, {0, 1, 2, 3}, {0, 1, 2, 3, 4}} {
		wantTake(t, s, "x", i)
		wantUsed(t, s, want...)
	}
	for _, c := range []struct {
		give int
		used []int
	}{
		{2, []int{0, 1, 3, 4}}, {0, []int{1, 3, 4}}, {4, []int{1, 3}}, {1, []int{3}}, {3, nil},
	} {
		given(t, s, c.give)
		wantUsed(t, s, c.used...)
		if s.Cap() != 5 {
			t.Error(s.Cap())
		}
	}
}

// In whatever order places are taken, those that are used are told rising.
func TestUsedRises(t *testing.T) {
	s := filled(t, 4, 4)
	given(t, s, 0, 1, 2, 3)
	for _, c := range []struct {
		take int
		used []int
	}{
		{3, []int{3}}, {2, []int{2, 3}}, {1, []int{1, 2, 3}}, {0, []int{0, 1, 2, 3}},
	} {
		wantTake(t, s, "x", c.take)
		wantUsed(t, s, c.used...)
	}
}

// P9.2

func TestExample(t *testing.T) {
	s := filled(t, 3, 3)
	given(t, s, 1, 0)
	wantTake(t, s, "x", 0)
	wantTake(t, s, "y", 1)
	wantFull(t, s, "z")
	wantUsed(t, s, 0, 1, 2)
	wantAt(t, s, 2, "thing 2")
}

// The one that was given back last, then the one before it, and so on; then the least one that never had a thing.
func TestTakeNext(t *testing.T) {
	for _, c := range []struct {
		give, next []int
	}{
		{nil, []int{4, 5, 6}},
		{[]int{0}, []int{0, 4, 5, 6}},
		{[]int{3}, []int{3, 4, 5, 6}},
		{[]int{0, 3}, []int{3, 0, 4, 5, 6}},
		{[]int{3, 0}, []int{0, 3, 4, 5, 6}},
		{[]int{1, 3, 2}, []int{2, 3, 1, 4, 5, 6}},
		{[]int{0, 1, 2, 3}, []int{3, 2, 1, 0, 4, 5, 6}},
		{[]int{3, 2, 1, 0}, []int{0, 1, 2, 3, 4, 5, 6}},
		{[]int{2, 0, 3, 1}, []int{1, 3, 0, 2, 4, 5, 6}},
	} {
		s := filled(t, 7, 4)
		given(t, s, c.give...)
		for _, i := range c.next {
			wantTake(t, s, "x", i)
		}
		wantFull(t, s, "x")
		wantUsed(t, s, 0, 1, 2, 3, 4, 5, 6)
	}
}

// One that was given back, taken and given back again is the last one; one that was taken in between counts no more.
func TestGivenBackAgain(t *testing.T) {
	s := filled(t, 5, 3)
	given(t, s, 0, 1, 2)
	wantTake(t, s, "x", 2)
	wantTake(t, s, "x", 1)
	given(t, s, 2) // now 0, then 2
	wantTake(t, s, "x", 2)
	wantTake(t, s, "x", 0)
	wantTake(t, s, "x", 3)
	given(t, s, 0, 3, 1)
	wantTake(t, s, "x", 1)
	given(t, s, 2, 1)
	for _, i := range []int{1, 2, 3, 0, 4} {
		wantTake(t, s, "x", i)
	}
	wantFull(t, s, "x")
}

func TestTakeWhereAllHaveAThing(t *testing.T) {
	s := filled(t, 3, 3)
	for range 3 {
		wantFull(t, s, "d")
	}
	wantUsed(t, s, 0, 1, 2)
	for i := range 3 {
		wantAt(t, s, i, fmt.Sprint("thing ", i))
	}
	given(t, s, 1)
	wantTake(t, s, "d", 1)
	wantFull(t, s, "e")
}

func TestGive(t *testing.T) {
	s := filled(t, 5, 3)
	for _, i := range []int{math.MinInt, -1, 3, 4, 5, 6, 1024, 1 << 32, math.MaxInt} { // 3 and 4 never had a thing
		if s.Give(i) {
			t.Errorf("Give(%d) is true", i)
		}
	}
	wantUsed(t, s, 0, 1, 2)
	given(t, s, 1)
	wantUsed(t, s, 0, 2)
	if s.Give(1) || s.Give(1) {
		t.Error("Give of one that was given back already is true")
	}
	wantUsed(t, s, 0, 2)
	for _, i := range []int{1, 3, 4} { // each just once
		wantTake(t, s, "x", i)
	}
	wantFull(t, s, "x")
}

// A Give that is false is none: what was given back last stays so.
func TestGiveOfNothingChangesNothing(t *testing.T) {
	s := filled(t, 6, 4)
	given(t, s, 1, 3)
	for _, i := range []int{1, 3, 1, 5, 4, 6, -1} {
		if s.Give(i) {
			t.Errorf("Give(%d) is true", i)
		}
	}
	for _, i := range []int{3, 1, 4, 5} {
		wantTake(t, s, "x", i)
	}
	wantFull(t, s, "x")
}

func TestAtAndSwap(t *testing.T) {
	s := filled(t, 5, 3)
	given(t, s, 1)
	wantNothing(t, s, "x", math.MinInt, -1, 1, 3, 4, 5, 6, 1024, 1<<32, math.MaxInt)
	for _, i := range []int{0, 2} {
		wantAt(t, s, i, fmt.Sprint("thing ", i))
		for _, x := range []string{"other", "", "another"} {
			if !s.Swap(i, x) {
				t.Errorf("Swap(%d) is false", i)
			}
			wantAt(t, s, i, x)
			wantAt(t, s, i, x) // it stays there
		}
	}
	wantUsed(t, s, 0, 2)
	wantTake(t, s, "x", 1)
	wantAt(t, s, 0, "another")
	wantAt(t, s, 2, "another")
}

// Swap is no Give: neither the place nor the order of the free ones is another one for it.
func TestSwapKeepsTheOrder(t *testing.T) {
	s := filled(t, 5, 4)
	given(t, s, 2, 0)
	if !s.Swap(1, "x") || !s.Swap(3, "y") || s.Swap(2, "z") {
		t.Error("Swap")
	}
	for _, i := range []int{0, 2, 4} {
		wantTake(t, s, "t", i)
	}
	wantAt(t, s, 1, "x")
	wantAt(t, s, 3, "y")
}

// A place that is taken again has nothing of what it had.
func TestTakenAgain(t *testing.T) {
	s := filled(t, 2, 2)
	given(t, s, 0)
	wantNothing(t, s, "x", 0)
	wantTake(t, s, "", 0)
	wantAt(t, s, 0, "")
	wantAt(t, s, 1, "thing 1")
}

// Nothing is kept of what was given back.
func TestNothingIsKept(t *testing.T) {
	s, x := New[*int](2), new(int)
	s.Take(x)
	s.Take(x)
	given(t, s, 1)
	for _, p := range s.places {
		if !p.there && p.thing != nil {
			t.Error("a thing is kept that was given back")
		}
	}
}

// Things of any type, zero values among them: whether there is one is told by true alone.

// wantHeld: of a type whose things are these, the first one its zero value.
func wantHeld[T comparable](t *testing.T, things ...T) {
	t.Helper()
	s, m := New[T](len(things)+1), newModel[T](len(things)+1)
	for i, x := range things {
		wantTake(t, s, x, i)
		m.take(x)
	}
	wantSame(t, s, m)
	for i := range things {
		x := things[len(things)-1-i]
		if !s.Swap(i, x) || !m.swap(i, x) {
			t.Errorf("Swap(%d) is false", i)
		}
	}
	wantSame(t, s, m)
	given(t, s, 0)
	m.give(0)
	wantSame(t, s, m)
	wantNothing(t, s, things[0], 0, len(things))
}

func TestAnyType(t *testing.T) {
	n := 5
	wantHeld(t, 0, 1, -1, math.MinInt, math.MaxInt)
	wantHeld(t, "", "a", "\xff", "a")
	wantHeld(t, false, true)
	wantHeld(t, nil, &n, new(int), &n)
	wantHeld[any](t, nil, 0, "", 1.5, api.OK)
	wantHeld[error](t, nil, api.ErrFull, api.OK)
	wantHeld(t, struct{}{}, struct{}{}, struct{}{})
	wantHeld(t, [2]string{}, [2]string{"a", "b"})
	wantHeld(t, api.Route{}, api.Route{Hop: 1}, api.Route{P: api.Prefix{N: 8}}, api.Route{P: api.Prefix{N: -1}, Hop: -1})
	wantHeld(t, nil, make(chan int))
	wantHeld(t, [4096]byte{}, [4096]byte{4095: 1})
}

// Things of types that are not held against each other.
func TestTypesThatAreNotCompared(t *testing.T) {
	f := New[func() int](2)
	f.Take(nil)
	f.Take(func() int { return 7 })
	if x, ok := f.At(0); x != nil || !ok {
		t.Error(ok)
	}
	if x, ok := f.At(1); !ok || x() != 7 {
		t.Error(ok)
	}
	if x, ok := f.At(2); x != nil || ok {
		t.Error(ok)
	}
	m := New[map[string]int](1)
	m.Take(map[string]int{"a": 1})
	if x, ok := m.At(0); !ok || x["a"] != 1 {
		t.Error(x, ok)
	}
	d := New[float64](1)
	d.Take(math.NaN())
	if x, ok := d.At(0); !ok || !math.IsNaN(x) {
		t.Error(x, ok)
	}
	in := New[*Slots[string]](1) // a row of rows
	in.Take(filled(t, 2, 1))
	if x, ok := in.At(0); !ok || x.Len() != 1 {
		t.Error(ok)
	}
	wantUsed(t, in, 0)
}

// What is handed in stays as it was, and what was answered is not changed by what is done behind it.
func TestHandedInAndAnswered(t *testing.T) {
	x, y, z := []int{1, 2, 3, 4}[:2], []int{5, 6}, []int{7}
	s := New[[]int](2)
	s.Take(x)
	s.Take(y)
	at, _ := s.At(0)
	used := s.Used()
	s.Swap(0, z)
	s.Give(0)
	s.Take(y)
	s.Give(1)
	s.Used()
	if !slices.Equal(x[:4], []int{1, 2, 3, 4}) || !slices.Equal(y, []int{5, 6}) || !slices.Equal(z, []int{7}) {
		t.Error(x[:4], y, z)
	}
	if !slices.Equal(at, []int{1, 2}) || !slices.Equal(used, []int{0, 1}) {
		t.Error(at, used)
	}
}

// What is told alone changes nothing.
func TestAskedOften(t *testing.T) {
	s := filled(t, 4, 3)
	given(t, s, 0, 2)
	for range 3 {
		s.At(0)
		s.At(1)
		s.At(3)
		s.Used()
		s.Len()
		s.Cap()
		wantUsed(t, s, 1)
	}
	for _, i := range []int{2, 0, 3} {
		wantTake(t, s, "x", i)
	}
}

// Two of them have nothing in common.
func TestTwoOfThem(t *testing.T) {
	x, y := filled(t, 3, 2), filled(t, 4, 4)
	given(t, y, 3, 0)
	wantUsed(t, x, 0, 1)
	wantTake(t, x, "x", 2)
	wantTake(t, y, "y", 0)
	wantAt(t, x, 0, "thing 0")
	wantFull(t, x, "x")
}

// P9.3

func TestNotMadeByNew(t *testing.T) {
	for name, s := range map[string]*Slots[string]{"nil": nil, "zero": new(Slots[string])} {
		for range 2 {
			if s.Cap() != 0 {
				t.Errorf("%s: Cap = %d", name, s.Cap())
			}
			wantUsed(t, s)
			wantFull(t, s, "x")
			wantNothing(t, s, "x", numbers(3)...)
			wantSame(t, s, newModel[string](0))
		}
	}
	var none *Slots[func()]
	wantFull(t, none, func() {})
	wantUsed(t, none)
	wantUsed(t, new(Slots[[]int]))
}

// P9.4

// All that can be done with few places, in every order, up to so many turns.
func TestEveryOrder(t *testing.T) {
	for most, turns := range map[int]int{0: 3, 1: 7, 2: 7, 3: 7, 4: 6} {
		var done []int // -1 takes, i gives the place i
		var further func()
		further = func() {
			s, m := New[int](most), newModel[int](most)
			for turn, what := range done {
				if what >= 0 {
					if got, want := s.Give(what), m.give(what); got != want {
						t.Errorf("%v: Give(%d) = %v", done[:turn], what, got)
					}
					continue
				}
				wantI, wantOk := m.take(turn)
				if i, ok := s.Take(turn); i != wantI || ok != wantOk {
					t.Errorf("%v: Take = %d, %v, not %d, %v", done[:turn], i, ok, wantI, wantOk)
				}
			}
			wantSame(t, s, m)
			if t.Failed() {
				t.Fatal(most, done)
			}
			for what := -1; what < most && len(done) < turns; what++ {
				done = append(done, what)
				further()
				done = done[:len(done)-1]
			}
		}
		further()
	}
}

// anyOrder takes, gives back and swaps in an order of any kind, held against the model.
func anyOrder[T comparable](t *testing.T, seed, most, turns int, thing func(k int) T) {
	t.Helper()
	s, m, mix := New[T](most), newModel[T](most), onpaper.Mixer(seed)
	for turn := range turns {
		i, x := mix.Below(m.most+4)-2, thing(mix.Below(1000))
		switch mix.Below(4 + 4*(turn*4/turns%2)) { // more comes than goes at first, less then, and both again
		case 0, 1:
			wantI, wantOk := m.take(x)
			if i, ok := s.Take(x); i != wantI || ok != wantOk {
				t.Errorf("Take = %d, %v, not %d, %v", i, ok, wantI, wantOk)
			}
		case 2:
			if got, want := s.Swap(i, x), m.swap(i, x); got != want {
				t.Errorf("Swap(%d) = %v", i, got)
			}
		default:
			if got, want := s.Give(i), m.give(i); got != want {
				t.Errorf("Give(%d) = %v", i, got)
			}
		}
		if turn%7 == 0 || most < 10 {
			wantSame(t, s, m)
		}
		if t.Failed() {
			t.Fatal("seed", seed, "most", most, "turn", turn)
		}
	}
	wantSame(t, s, m)
}

func TestAnyOrder(t *testing.T) {
	for seed, most := range []int{-1, 0, 1, 2, 3, 5, 8, 50, 300} {
		anyOrder(t, seed, most, 3000, func(k int) int { return k })
		anyOrder(t, seed+100, most, 3000, func(k int) string { return fmt.Sprint(k % 10) })
		anyOrder(t, seed+200, most, 3000, func(k int) api.Route { return api.Route{Hop: k} })
	}
}

// As many as may be: no two things have one place, and what is given back is taken next.
func TestMany(t *testing.T) {
	s := New[int](math.MaxInt)
	for i := range api.MaxSlots {
		wantTake(t, s, i*3, i)
	}
	wantFull(t, s, 1)
	var l []int
	for k := range api.MaxSlots {
		l = append(l, k*389%api.MaxSlots) // each once
	}
	given(t, s, l...)
	wantUsed(t, s)
	slices.Reverse(l)
	for _, i := range l {
		wantTake(t, s, i*5, i)
	}
	wantFull(t, s, 1)
	for i := range api.MaxSlots {
		wantAt(t, s, i, i*5)
	}
	for i := range api.MaxSlots {
		given(t, s, i)
		wantTake(t, s, i*7, i)
	}
	if s.Len() != api.MaxSlots || s.Cap() != api.MaxSlots {
		t.Error(s.Len(), s.Cap())
	}
}
