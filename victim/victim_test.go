package victim

import (
	"math"
	"slices"
	"testing"

	"kedge/onpaper"
)

// The tests hold the package against orders that are written out by hand, and against a model, which tells of each place, straight from the chapter's words, whether another one has to go instead, and takes out place by place.

// policies are of any kind; only 1 is Light.
var policies = []int{LRU, Light, math.MinInt, math.MinInt + 1, -1 << 32, -2, -1, 2, 3, 7, 255, 256, 257, 1<<32 + 1, math.MaxInt - 1, math.MaxInt}

// others are those that are not Light.
func others() []int {
	return slices.DeleteFunc(slices.Clone(policies), func(policy int) bool { return policy == 1 })
}

// instead: has an entry, at place j, to go instead of another one, at place i?
func instead(policy int, l []Entry, j, i int) bool {
	if policy == 1 && l[j].Score != l[i].Score {
		return l[j].Score < l[i].Score
	}
	return j > i
}

// chosen is the place of the one that has to go, -1 if there is none.
func chosen(policy int, l []Entry) int {
	for i := range l {
		stays := false
		for j := range l {
			stays = stays || instead(policy, l, j, i)
		}
		if !stays {
			return i
		}
	}
	return -1
}

// ranked are the entries in the order in which they would have to go.
func ranked(policy int, l []Entry) []Entry {
	var order []Entry
	for left := slices.Clone(l); len(left) > 0; {
		i := chosen(policy, left)
		order = append(order, left[i])
		left = slices.Delete(left, i, i+1)
	}
	return order
}

func numbers(l []Entry) []int {
	var is []int
	for _, x := range l {
		is = append(is, x.I)
	}
	return is
}

// scored are entries of these Scores; their I's are 10, 11 and so on.
func scored(scores ...int) []Entry {
	var l []Entry
	for k, n := range scores {
		l = append(l, Entry{I: 10 + k, Score: n})
	}
	return l
}

// want: in this order they go, and the first of it is chosen; the list stays as it was.
func want(t *testing.T, policy int, l []Entry, order ...int) {
	t.Helper()
	before := slices.Clone(l)
	if got := Rank(policy, l); !slices.Equal(got, order) {
		t.Errorf("Rank(%d, %v) = %v, not %v", policy, before, got, order)
	}
	first := 0
	for _, i := range slices.Backward(order) {
		first = i
	}
	if i, ok := Choose(policy, l); i != first || ok != (len(order) > 0) {
		t.Errorf("Choose(%d, %v) = %d, %v, of %v", policy, before, i, ok, order)
	}
	if !slices.Equal(l, before) {
		t.Errorf("policy %d makes %v of %v", policy, l, before)
	}
}

// wantModel: by all these policies they go as the model says.
func wantModel(t *testing.T, l []Entry, policies ...int) {
	t.Helper()
	for _, policy := range policies {
		want(t, policy, l, numbers(ranked(policy, l))...)
	}
}

// P12.1 and P12.2, by hand

func TestExample(t *testing.T) {
	l := scored(3, 1, 1, 2)
	if i, ok := Choose(Light, l); i != l[2].I || !ok {
		t.Error(i, ok)
	}
	want(t, Light, l, 12, 11, 13, 10)
	want(t, LRU, l, 13, 12, 11, 10)
}

func TestPolicies(t *testing.T) {
	if LRU != 0 || Light != 1 {
		t.Error(LRU, Light)
	}
}

func TestOfNone(t *testing.T) {
	for _, policy := range policies {
		for _, l := range [][]Entry{nil, {}, make([]Entry, 0, 4), scored(3, 1)[:0]} {
			if i, ok := Choose(policy, l); i != 0 || ok {
				t.Errorf("Choose(%d) of none = %d, %v", policy, i, ok)
			}
			if got := Rank(policy, l); len(got) != 0 {
				t.Errorf("Rank(%d) of none = %v", policy, got)
			}
		}
	}
}

func TestOfOne(t *testing.T) {
	for _, policy := range policies {
		for _, i := range []int{math.MinInt, -1, 0, 1, 7, math.MaxInt} {
			for _, n := range []int{math.MinInt, -1, 0, 1, 255, math.MaxInt} {
				want(t, policy, []Entry{{I: i, Score: n}}, i)
			}
		}
	}
}

// By LRU, and by what is no policy, the Scores are nothing: the last one goes.
func TestLRU(t *testing.T) {
	for _, policy := range others() {
		for _, scores := range [][]int{{0, 0, 0, 0}, {1, 2, 3, 4}, {4, 3, 2, 1}, {-1, 5, 5, 9}, {9, -5, -5, 2}, {math.MinInt, 0, 0, math.MaxInt}, {math.MaxInt, 1, 0, math.MinInt}} {
			want(t, policy, scored(scores...), 13, 12, 11, 10)
		}
		want(t, policy, scored(1, 2), 11, 10)
	}
}

func TestLight(t *testing.T) {
	for _, c := range []struct{ scores, order []int }{
		{[]int{1, 2}, []int{10, 11}},
		{[]int{2, 1}, []int{11, 10}},
		{[]int{1, 1}, []int{11, 10}},

		// All alike; they rise; they fall.
		{[]int{0, 0, 0}, []int{12, 11, 10}},
		{[]int{5, 5, 5, 5}, []int{13, 12, 11, 10}},
		{[]int{1, 2, 3, 4}, []int{10, 11, 12, 13}},
		{[]int{4, 3, 2, 1}, []int{13, 12, 11, 10}},

		// The least one first, in the middle, last; some of the others alike.
		{[]int{1, 3, 2, 2, 4}, []int{10, 13, 12, 11, 14}},
		{[]int{3, 2, 1, 2, 4}, []int{12, 13, 11, 10, 14}},
		{[]int{3, 2, 4, 2, 1}, []int{14, 13, 11, 10, 12}},

		// Several least ones: here and there, ahead of the others, behind them, between them.
		{[]int{1, 2, 1, 3, 1}, []int{14, 12, 10, 11, 13}},
		{[]int{1, 1, 2, 2, 3}, []int{11, 10, 13, 12, 14}},
		{[]int{3, 2, 2, 1, 1}, []int{14, 13, 12, 11, 10}},
		{[]int{2, 1, 1, 1, 2}, []int{13, 12, 11, 14, 10}},

		// Some below 0, all of them below 0.
		{[]int{0, -1, 1, -1, -3}, []int{14, 13, 11, 10, 12}},
		{[]int{-2, -1, -2, -4, -4}, []int{14, 13, 12, 10, 11}},

		// The least and the greatest int.
		{[]int{math.MinInt, math.MaxInt, 0}, []int{10, 12, 11}},
		{[]int{math.MaxInt, math.MinInt, 0}, []int{11, 12, 10}},
		{[]int{1, math.MinInt, math.MaxInt}, []int{11, 10, 12}},
		{[]int{-1, math.MaxInt, math.MinInt}, []int{12, 10, 11}},
		{[]int{math.MaxInt, math.MaxInt, -2}, []int{12, 11, 10}},
		{[]int{math.MinInt, 2, math.MinInt}, []int{12, 10, 11}},
		{[]int{math.MinInt + 1, math.MinInt}, []int{11, 10}},
		{[]int{math.MaxInt - 1, math.MaxInt}, []int{10, 11}},

		// Those that would be alike in fewer digits.
		{[]int{1<<53 + 1, 1 << 53, 1<<53 + 2}, []int{11, 10, 12}},
		{[]int{1 << 32, 1, 1<<32 + 1, 0, 2}, []int{13, 11, 14, 10, 12}},
		{[]int{256, 255, 0, 511, 1}, []int{12, 14, 11, 10, 13}},
	} {
		want(t, Light, scored(c.scores...), c.order...)
	}
}

// What goes is told by its I, not by its place; and which one goes does not hang on I.
func TestNumbers(t *testing.T) {
	for _, is := range [][]int{
		{3, 1, 2, 0}, {0, 0, 0, 0}, {7, 7, 5, 7}, {-1, -2, -3, -4}, {-9, 8, -9, 8}, {1, 2, 3, 4},
		{math.MinInt, math.MaxInt, math.MinInt, 0}, {1024, 65536, 1 << 32, 1<<32 + 1},
	} {
		l := scored(2, 1, 3, 1)
		for k := range l {
			l[k].I = is[k]
		}
		want(t, Light, l, is[3], is[1], is[0], is[2])
		for _, policy := range others() {
			want(t, policy, l, is[3], is[2], is[1], is[0])
		}
	}
}

// A number 0 that has to go is not none.
func TestZeroGoes(t *testing.T) {
	for _, policy := range policies {
		want(t, policy, []Entry{{I: 4, Score: 2}, {}}, 0, 4)
	}
	want(t, Light, []Entry{{}, {I: 4, Score: 2}}, 0, 4)
}

// The same entry twice goes twice.
func TestSameEntryTwice(t *testing.T) {
	x, y := Entry{I: 5, Score: 2}, Entry{I: 6, Score: 3}
	want(t, Light, []Entry{x, y, x}, 5, 5, 6)
	want(t, LRU, []Entry{x, y, x}, 5, 6, 5)
}

// P12.1 and P12.2, against the model

// each shows every list of up to most Scores that are among these.
func each(most int, among []int, see func(scores []int)) {
	var scores []int
	var further func()
	further = func() {
		see(scores)
		for _, n := range among {
			if len(scores) < most {
				scores = append(scores, n)
				further()
				scores = scores[:len(scores)-1]
			}
		}
	}
	further()
}

func TestEveryList(t *testing.T) {
	each(6, []int{0, 1, 2, 3}, func(scores []int) { wantModel(t, scored(scores...), LRU, Light) })
	each(4, []int{math.MinInt, math.MinInt + 1, -1, 0, 1, math.MaxInt}, func(scores []int) { wantModel(t, scored(scores...), LRU, Light) })
	each(3, []int{-1, 0, 2}, func(scores []int) { wantModel(t, scored(scores...), policies...) })
}

// anyList is of n entries of any kind: of few Scores or of many, of few I's or of many.
func anyList(mix *onpaper.Mixer, n int) []Entry {
	scores, is := 1+mix.Below(2*n+2), 1+mix.Below(2*n+2)
	var l []Entry
	for range n {
		l = append(l, Entry{I: mix.Below(is) - is/3, Score: mix.Below(scores) - scores/3})
	}
	return l
}

func TestAnyList(t *testing.T) {
	mix := onpaper.Mixer(12)
	for n := range 60 {
		for range 5 {
			wantModel(t, anyList(&mix, n), LRU, Light, policies[mix.Below(len(policies))])
		}
	}
}

// Choose and Rank are held against each other: the one that is chosen goes, and of the others the one that is, and so on.
func TestChooseAgainAndAgain(t *testing.T) {
	mix := onpaper.Mixer(3)
	for n := range 40 {
		l := anyList(&mix, n)
		for k := range l {
			l[k].I = (k*37+11)%53 - 9 // none alike, so that a number tells its place
		}
		for _, policy := range policies {
			left, order := slices.Clone(l), []int{}
			for range l {
				i, ok := Choose(policy, left)
				if !ok {
					t.Fatalf("Choose(%d, %v) is false", policy, left)
				}
				order = append(order, i)
				left = slices.DeleteFunc(left, func(x Entry) bool { return x.I == i })
			}
			if got := Rank(policy, l); !slices.Equal(got, order) {
				t.Fatalf("Rank(%d, %v) = %v, not %v", policy, l, got, order)
			}
		}
	}
}

// What was given

// The list is left as it was, also behind its end; asked again the same is answered, in memory of its own.
func TestGiven(t *testing.T) {
	whole := scored(4, 1, 3, 1, 2, 0, -1, -1)
	before := slices.Clone(whole)
	for _, policy := range policies {
		l := whole[1:5]
		order := []int{14, 13, 12, 11}
		if policy == Light {
			order = []int{13, 11, 14, 12}
		}
		first := Rank(policy, l)
		for range 3 {
			want(t, policy, l, order...)
		}
		clear(Rank(policy, l))
		if !slices.Equal(first, order) || !slices.Equal(whole, before) {
			t.Errorf("policy %d makes %v, %v of %v", policy, first, whole, before)
		}
	}
}

// What was answered is not changed by what is asked or given behind it.
func TestAnswered(t *testing.T) {
	l := scored(3, 1, 2)
	first := Rank(Light, l)
	l[1] = Entry{I: 99, Score: 7}
	second := Rank(Light, l)
	want(t, Light, scored(0, 0, 0), 12, 11, 10)
	if !slices.Equal(first, []int{11, 12, 10}) || !slices.Equal(second, []int{12, 10, 99}) {
		t.Error(first, second)
	}
}

// P12.3

// wantFollows: each goes once, and by Light the Scores never fall along the order; none of the I's is alike.
func wantFollows(t *testing.T, policy int, l []Entry) {
	t.Helper()
	scores := map[int]int{}
	for _, x := range l {
		scores[x.I] = x.Score
	}
	order := Rank(policy, l)
	if len(order) != len(l) {
		t.Fatalf("policy %d: %d go, of %d", policy, len(order), len(l))
	}
	least := math.MinInt
	for k, i := range order {
		n, left := scores[i]
		if !left {
			t.Fatalf("policy %d: %d, at %d, goes twice, or never was there", policy, i, k)
		}
		if policy == Light && n < least {
			t.Fatalf("%d, of Score %d, goes at %d, behind one of %d", i, n, k, least)
		}
		least = n
		delete(scores, i)
	}
}

func TestFollows(t *testing.T) {
	for _, policy := range policies {
		each(5, []int{-1, 0, 1}, func(scores []int) { wantFollows(t, policy, scored(scores...)) })
	}
	mix := onpaper.Mixer(7)
	for n := range 200 {
		l := anyList(&mix, n)
		for k := range l {
			l[k].I = 3*k - 100 // none alike
		}
		wantFollows(t, LRU, l)
		wantFollows(t, Light, l)
	}
}

// Of I's that are alike each goes as often as it is there.
func TestEachAsOftenAsItIsThere(t *testing.T) {
	mix := onpaper.Mixer(5)
	for n := range 80 {
		l := anyList(&mix, n)
		there := slices.Sorted(slices.Values(numbers(l)))
		for _, policy := range []int{LRU, Light, -1} {
			if went := slices.Sorted(slices.Values(Rank(policy, l))); !slices.Equal(went, there) {
				t.Errorf("policy %d: %v go, of %v", policy, went, there)
			}
		}
	}
}

// Long lists: Scores that rise, fall, are alike, go up and down.
func TestMany(t *testing.T) {
	const n = 200000
	for name, score := range map[string]func(k int) int{
		"rise": func(k int) int { return k }, "fall": func(k int) int { return -k },
		"alike": func(int) int { return 5 }, "up and down": func(k int) int { return k * 7919 % 1009 },
	} {
		l := make([]Entry, n)
		for k := range l {
			l[k] = Entry{I: k, Score: score(k)}
		}
		for _, policy := range []int{LRU, Light} {
			wantFollows(t, policy, l)
			order := Rank(policy, l)
			if i, ok := Choose(policy, l); i != order[0] || !ok {
				t.Errorf("%s: Choose(%d) = %d, %v, not %d", name, policy, i, ok, order[0])
			}
			for k := 1; k < n; k++ { // of those that are alike, and all by LRU, the one behind goes ahead
				if i, j := order[k-1], order[k]; i < j && (policy == LRU || l[i].Score == l[j].Score) {
					t.Fatalf("%s: by %d, %d goes ahead of %d", name, policy, i, j)
				}
			}
		}
	}
}
