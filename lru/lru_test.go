package lru

import (
	"cmp"
	"iter"
	"maps"
	"math"
	"math/rand/v2"
	"slices"
	"testing"
)

// of is a list in which keys are used, one after the other.
func of[K comparable](keys ...K) *List[K] {
	l := &List[K]{}
	for _, k := range keys {
		l.Use(k)
	}
	return l
}

func checkUse[K comparable](t *testing.T, l *List[K], k K, want bool) {
	t.Helper()
	if got := l.Use(k); got != want {
		t.Fatalf("Use(%v) = %t, want %t", k, got, want)
	}
}

func checkDrop[K comparable](t *testing.T, l *List[K], k K, want bool) {
	t.Helper()
	if got := l.Drop(k); got != want {
		t.Fatalf("Drop(%v) = %t, want %t", k, got, want)
	}
}

func checkYields[K comparable](t *testing.T, all iter.Seq[K], want ...K) {
	t.Helper()
	if got := slices.Collect(all); !slices.Equal(got, want) {
		t.Fatalf("the range yields %v, want %v", got, want)
	}
}

// checkKeys asks a list in all ways for the keys that it is to have, and calls each of them twice, as a question changes nothing.
func checkKeys[K comparable](t *testing.T, l *List[K], want ...K) {
	t.Helper()
	for range 2 {
		if got := l.Len(); got != len(want) {
			t.Fatalf("Len() = %d, want %d", got, len(want))
		}
		for _, k := range want {
			if !l.Has(k) {
				t.Fatalf("Has(%v) = false, want it among %v", k, want)
			}
		}
		checkOldest(t, l, want...)
		checkYields(t, l.All(), want...)
	}
}

// checkOldest wants the first one of some keys.
func checkOldest[K comparable](t *testing.T, l *List[K], keys ...K) {
	t.Helper()
	var want K
	if len(keys) > 0 {
		want = keys[0]
	}
	if got, ok := l.Oldest(); got != want || ok != (len(keys) > 0) {
		t.Fatalf("Oldest() = %v, %t; want the first one of %v", got, ok, keys)
	}
}

func checkHasNot[K comparable](t *testing.T, l *List[K], keys ...K) {
	t.Helper()
	for _, k := range keys {
		if l.Has(k) {
			t.Fatalf("Has(%v) = true, want it not to be there", k)
		}
	}
}

// times is a list by another way: when each key was used last.
type times[K comparable] struct {
	used map[K]int
	now  int
}

func newTimes[K comparable]() *times[K] { return &times[K]{used: map[K]int{}} }

func (m *times[K]) use(k K) bool {
	was := m.drop(k)
	m.now++
	m.used[k] = m.now
	return was
}

func (m *times[K]) drop(k K) bool {
	_, was := m.used[k]
	delete(m.used, k)
	return was
}

func (m *times[K]) keys() []K {
	return slices.SortedFunc(maps.Keys(m.used), func(a, b K) int { return cmp.Compare(m.used[a], m.used[b]) })
}

// P15.1: Len, Has.

func TestZero(t *testing.T) {
	var l List[int]
	checkKeys(t, &l)
	checkHasNot(t, &l, 0, 1, -1)
	checkDrop(t, &l, 0, false)
	checkDrop(t, &l, 1, false)
	checkKeys(t, &l)
	checkUse(t, &l, 7, false)
	checkKeys(t, &l, 7)
	checkHasNot(t, &l, 0)
}

// A zero list is empty in whatever way it is made, and also as a part of something.
func TestZeroElsewhere(t *testing.T) {
	lists := make([]List[string], 2)
	checkKeys(t, &lists[1])
	checkUse(t, &lists[1], "", false)
	checkKeys(t, &lists[1], "")
	checkKeys(t, &lists[0])

	page := struct{ l List[string] }{}
	checkDrop(t, &page.l, "a", false)
	checkUse(t, &page.l, "a", false)
	checkKeys(t, &page.l, "a")
}

func TestLen(t *testing.T) {
	l := of[int]()
	for k := range 100 {
		if got := l.Len(); got != k {
			t.Fatalf("Len() = %d behind %d keys", got, k)
		}
		l.Use(k)
		l.Use(k / 2)
	}
	for k := range 100 {
		if got := l.Len(); got != 100-k {
			t.Fatalf("Len() = %d with %d keys dropped out of 100", got, k)
		}
		l.Drop(k)
		l.Drop(k / 2)
	}
	checkKeys(t, l)
}

func TestHas(t *testing.T) {
	l := of(4, 9, 0)
	for k := -2; k < 12; k++ {
		if got := l.Has(k); got != (k == 0 || k == 4 || k == 9) {
			t.Errorf("Has(%d) = %t", k, got)
		}
	}
	// A question is no use of a key, and none that is not there comes to be by it.
	checkKeys(t, l, 4, 9, 0)
	checkHasNot(t, l, 5, 5)
	checkKeys(t, l, 4, 9, 0)
}

// P15.1: Use.

func TestUse(t *testing.T) {
	for _, x := range []struct {
		name string
		keys []int
		use  int
		was  bool
		want []int
	}{
		{"not there, no keys", nil, 1, false, []int{1}},
		{"not there", []int{1, 2, 3}, 4, false, []int{1, 2, 3, 4}},
		{"the zero value, not there", []int{1, 2, 3}, 0, false, []int{1, 2, 3, 0}},
		{"the first one", []int{1, 2, 3, 4}, 1, true, []int{2, 3, 4, 1}},
		{"the second one", []int{1, 2, 3, 4}, 2, true, []int{1, 3, 4, 2}},
		{"one in the middle", []int{1, 2, 3, 4, 5}, 3, true, []int{1, 2, 4, 5, 3}},
		{"the last one but one", []int{1, 2, 3, 4}, 3, true, []int{1, 2, 4, 3}},
		{"the last one", []int{1, 2, 3, 4}, 4, true, []int{1, 2, 3, 4}},
		{"the first one of two", []int{1, 2}, 1, true, []int{2, 1}},
		{"the last one of two", []int{1, 2}, 2, true, []int{1, 2}},
		{"the only one", []int{1}, 1, true, []int{1}},
	} {
		t.Run(x.name, func(t *testing.T) {
			l := of(x.keys...)
			checkUse(t, l, x.use, x.was)
			checkKeys(t, l, x.want...)
			// And what is done behind it finds the same keys.
			checkUse(t, l, 99, false)
			checkKeys(t, l, slices.Concat(x.want, []int{99})...)
			checkUse(t, l, x.want[0], true)
			checkKeys(t, l, slices.Concat(x.want[1:], []int{99, x.want[0]})...)
		})
	}
}

func TestExample(t *testing.T) {
	l := of(1, 2, 1)
	checkOldest(t, l, 2)
	checkKeys(t, l, 2, 1)
}

// P15.1: Drop.

func TestDrop(t *testing.T) {
	for _, x := range []struct {
		name string
		keys []int
		drop int
		was  bool
		want []int
	}{
		{"not there, no keys", nil, 1, false, nil},
		{"not there", []int{1, 2, 3}, 4, false, []int{1, 2, 3}},
		{"the zero value, not there", []int{1, 2, 3}, 0, false, []int{1, 2, 3}},
		{"the first one", []int{1, 2, 3, 4}, 1, true, []int{2, 3, 4}},
		{"the second one", []int{1, 2, 3, 4}, 2, true, []int{1, 3, 4}},
		{"one in the middle", []int{1, 2, 3, 4, 5}, 3, true, []int{1, 2, 4, 5}},
		{"the last one but one", []int{1, 2, 3, 4}, 3, true, []int{1, 2, 4}},
		{"the last one", []int{1, 2, 3, 4}, 4, true, []int{1, 2, 3}},
		{"the first one of two", []int{1, 2}, 1, true, []int{2}},
		{"the last one of two", []int{1, 2}, 2, true, []int{1}},
		{"the only one", []int{1}, 1, true, nil},
	} {
		t.Run(x.name, func(t *testing.T) {
			l := of(x.keys...)
			checkDrop(t, l, x.drop, x.was)
			checkKeys(t, l, x.want...)
			checkHasNot(t, l, x.drop)
			checkDrop(t, l, x.drop, false)
			checkKeys(t, l, x.want...)
			// A use behind it is as of a new key.
			checkUse(t, l, x.drop, false)
			want := slices.Concat(x.want, []int{x.drop})
			checkKeys(t, l, want...)
			for k, key := range want {
				checkDrop(t, l, key, true)
				checkKeys(t, l, want[k+1:]...)
			}
		})
	}
}

// P15.1: Oldest.

func TestOldest(t *testing.T) {
	l := of[string]()
	checkOldest(t, l)
	for _, x := range []struct {
		deed func(string) bool
		key  string
		want []string
	}{
		{l.Drop, "a", nil}, {l.Use, "a", []string{"a"}}, {l.Use, "b", []string{"a"}}, {l.Use, "c", []string{"a"}}, {l.Use, "b", []string{"a"}},
		{l.Use, "a", []string{"c"}}, {l.Drop, "b", []string{"c"}}, {l.Drop, "x", []string{"c"}}, {l.Drop, "c", []string{"a"}}, {l.Use, "c", []string{"a"}},
		{l.Drop, "a", []string{"c"}}, {l.Use, "c", []string{"c"}}, {l.Drop, "c", nil}, {l.Use, "", []string{""}}, {l.Drop, "", nil},
	} {
		x.deed(x.key)
		checkOldest(t, l, x.want...)
		checkOldest(t, l, x.want...)
	}
}

// The zero value of a key may be the oldest one, and is then there.
func TestOldestZero(t *testing.T) {
	l := of(0, 1)
	if k, ok := l.Oldest(); k != 0 || !ok {
		t.Errorf("Oldest() = %d, %t; want 0 and true", k, ok)
	}
	l.Drop(0)
	l.Drop(1)
	if k, ok := l.Oldest(); k != 0 || ok {
		t.Errorf("Oldest() = %d, %t; want 0 and false", k, ok)
	}
}

// P15.1: All.

// What is done between the call of All and the range is not to be seen in it.
func TestAllOfThen(t *testing.T) {
	for _, x := range []struct {
		name string
		deed func(l *List[int])
	}{
		{"use of a new one", func(l *List[int]) { l.Use(5) }},
		{"use of the first one", func(l *List[int]) { l.Use(1) }},
		{"use of one in the middle", func(l *List[int]) { l.Use(2) }},
		{"use of the last one", func(l *List[int]) { l.Use(3) }},
		{"drop of the first one", func(l *List[int]) { l.Drop(1) }},
		{"drop of one in the middle", func(l *List[int]) { l.Drop(2) }},
		{"drop of the last one", func(l *List[int]) { l.Drop(3) }},
		{"drop of all", func(l *List[int]) { l.Drop(3); l.Drop(1); l.Drop(2) }},
		{"drop and use of the first one", func(l *List[int]) { l.Drop(1); l.Use(1) }},
		{"other keys", func(l *List[int]) {
			l.Drop(1)
			l.Drop(2)
			l.Drop(3)
			l.Use(7)
			l.Use(8)
			l.Use(9)
		}},
	} {
		t.Run(x.name, func(t *testing.T) {
			l := of(1, 2, 3)
			all := l.All()
			x.deed(l)
			checkYields(t, all, 1, 2, 3)
			checkYields(t, all, 1, 2, 3)

			l = of(1, 2, 3)
			var got []int
			for k := range l.All() {
				if len(got) == 0 {
					x.deed(l)
				}
				got = append(got, k)
			}
			if !slices.Equal(got, []int{1, 2, 3}) {
				t.Errorf("a range in which it is done yields %v", got)
			}

			l = of[int]()
			all = l.All()
			x.deed(l)
			checkYields(t, all)
		})
	}
}

// Each key is dropped, or used, as soon as it is yielded.
func TestAllWhileDone(t *testing.T) {
	l := of(1, 2, 3, 4)
	var got []int
	for k := range l.All() {
		got = append(got, k)
		checkDrop(t, l, k, true)
		checkUse(t, l, k+10, false)
	}
	if !slices.Equal(got, []int{1, 2, 3, 4}) {
		t.Errorf("the range yields %v", got)
	}
	checkKeys(t, l, 11, 12, 13, 14)
	got = nil
	for k := range l.All() {
		got = append(got, k)
		checkUse(t, l, 25-k, true)
	}
	if !slices.Equal(got, []int{11, 12, 13, 14}) {
		t.Errorf("the range yields %v", got)
	}
	checkKeys(t, l, 14, 13, 12, 11)
}

func TestAllBrokenOff(t *testing.T) {
	l := of(1, 2, 3, 4)
	all := l.All()
	for many := 1; many <= 4; many++ {
		var got []int
		for k := range all {
			got = append(got, k)
			if len(got) == many {
				break
			}
		}
		if !slices.Equal(got, []int{1, 2, 3, 4}[:many]) {
			t.Errorf("a range broken off behind %d keys yields %v", many, got)
		}
		checkYields(t, all, 1, 2, 3, 4)
	}
	checkKeys(t, l, 1, 2, 3, 4)
}

// One range goes on while another one over the same result begins.
func TestAllWithin(t *testing.T) {
	all := of("a", "b").All()
	var got []string
	for k := range all {
		for other := range all {
			got = append(got, k+other)
		}
	}
	if !slices.Equal(got, []string{"aa", "ab", "ba", "bb"}) {
		t.Errorf("two ranges yield %v", got)
	}
}

func TestAllOfEmpty(t *testing.T) {
	l := of(1)
	l.Drop(1)
	for _, l := range []*List[int]{{}, l} {
		all := l.All()
		if all == nil {
			t.Fatal("All() = nil")
		}
		for k := range all {
			t.Errorf("it yields %d", k)
		}
	}
}

// Two results of one list, and what they are of, are apart.
func TestAllsAreApart(t *testing.T) {
	l := of(1, 2)
	before := l.All()
	l.Use(1)
	behind := l.All()
	l.Drop(1)
	checkYields(t, before, 1, 2)
	checkYields(t, behind, 2, 1)
	checkKeys(t, l, 2)
}

func TestListsAreApart(t *testing.T) {
	a, b := of(1, 2, 3), of(1, 2, 3)
	a.Use(1)
	a.Use(4)
	a.Drop(2)
	checkKeys(t, a, 3, 1, 4)
	checkKeys(t, b, 1, 2, 3)
	checkHasNot(t, b, 4)
	b.Drop(1)
	checkKeys(t, a, 3, 1, 4)
}

// Keys of any kind.

// checkKind takes three different keys of a kind, of which one is the zero value.
func checkKind[K comparable](t *testing.T, a, b, zero K) {
	t.Helper()
	l := of[K]()
	checkHasNot(t, l, a, b, zero)
	checkDrop(t, l, zero, false)
	checkUse(t, l, a, false)
	checkUse(t, l, zero, false)
	checkUse(t, l, b, false)
	checkKeys(t, l, a, zero, b)
	checkUse(t, l, a, true)
	checkKeys(t, l, zero, b, a)
	checkUse(t, l, zero, true)
	checkDrop(t, l, b, true)
	checkKeys(t, l, a, zero)
	checkDrop(t, l, a, true)
	checkKeys(t, l, zero)
	checkDrop(t, l, zero, true)
	checkKeys(t, l)
}

func TestKinds(t *testing.T) {
	type spot struct {
		x, y int
		name string
	}
	one, two := 1, 1
	checkKind(t, math.MinInt, math.MaxInt, 0)
	checkKind[byte](t, 1, 255, 0)
	checkKind(t, 0.5, math.Inf(-1), 0)
	checkKind(t, "a", "a\x00", "")
	checkKind(t, spot{1, 2, "a"}, spot{1, 2, "b"}, spot{})
	checkKind(t, [2]spot{{}, {y: 1}}, [2]spot{{y: 1}}, [2]spot{})
	checkKind(t, &one, &two, nil)
	checkKind[any](t, 1, "1", nil)
	checkKind[any](t, 1, int64(1), nil)
}

func TestBools(t *testing.T) {
	l := of(true, false, true)
	checkKeys(t, l, false, true)
	checkDrop(t, l, false, true)
	checkKeys(t, l, true)
}

func TestOnlyKey(t *testing.T) {
	l := of(struct{}{})
	checkUse(t, l, struct{}{}, true)
	checkKeys(t, l, struct{}{})
	checkDrop(t, l, struct{}{}, true)
	checkKeys(t, l)
}

// Keys that are not equal to themselves: nothing is promised but that calls end without a panic, and the other keys stay in order.
func TestNotEqual(t *testing.T) {
	numbers := of(1.0, 2)
	for range 3 {
		numbers.Use(math.NaN())
		numbers.Has(math.NaN())
		numbers.Drop(math.NaN())
	}
	checkKeys(t, numbers, 1, 2)

	anything := of[any](1, "a")
	for _, k := range []any{[]int{1}, map[int]int{}, func() {}, [1]any{[]int(nil)}, math.NaN()} {
		anything.Use(k)
		anything.Has(k)
		anything.Drop(k)
		anything.Use(k)
	}
	checkKeys[any](t, anything, 1, "a")
}

// Rows of deeds, held against the promise by another way.

// checkDeed does one thing to both and holds the answers against each other.
func checkDeed[K comparable](t *testing.T, l *List[K], m *times[K], deed int, k K) {
	t.Helper()
	switch deed {
	case 0:
		checkUse(t, l, k, m.use(k))
	case 1:
		checkDrop(t, l, k, m.drop(k))
	default:
		if _, want := m.used[k]; l.Has(k) != want {
			t.Fatalf("Has(%v) = %t", k, !want)
		}
	}
}

// All rows of six uses and drops of three keys.
func TestAllShortRows(t *testing.T) {
	const kinds, many = 6, 6
	rows := 1
	for range many {
		rows *= kinds
	}
	for row := range rows {
		l, m := of[int](), newTimes[int]()
		for range many {
			checkDeed(t, l, m, row%2, row/2%3)
			row /= kinds
			checkKeys(t, l, m.keys()...)
		}
	}
}

func TestAnyDeeds(t *testing.T) {
	r := rand.New(rand.NewPCG(15, 1))
	for round := range 200 {
		l, m := of[int](), newTimes[int]()
		kinds := 1 + r.IntN(40)
		var past []iter.Seq[int]
		var were [][]int
		for range 300 {
			checkDeed(t, l, m, r.IntN(3), r.IntN(kinds)-kinds/2)
			if r.IntN(20) == 0 {
				checkKeys(t, l, m.keys()...)
				past, were = append(past, l.All()), append(were, m.keys())
			}
		}
		checkKeys(t, l, m.keys()...)
		for k, all := range past {
			checkYields(t, all, were[k]...)
		}
		if round%2 == 0 {
			checkEmptied(t, l, m)
		}
	}
}

// checkEmptied drops the oldest key until there is none.
func checkEmptied(t *testing.T, l *List[int], m *times[int]) {
	t.Helper()
	for _, want := range m.keys() {
		k, ok := l.Oldest()
		if k != want || !ok {
			t.Fatalf("Oldest() = %d, %t; want %d", k, ok, want)
		}
		checkDrop(t, l, k, true)
	}
	checkKeys(t, l)
}

// A long row with many keys ends soon.
func TestLongRow(t *testing.T) {
	const many = 200_000
	l := of[int]()
	for k := range many {
		checkUse(t, l, k, false)
	}
	for k := range many / 2 {
		checkUse(t, l, 2*k, true)
	}
	for k := range many / 2 {
		if got, ok := l.Oldest(); got != 2*k+1 || !ok {
			t.Fatalf("Oldest() = %d, %t; want %d", got, ok, 2*k+1)
		}
		checkDrop(t, l, 2*k+1, true)
	}
	k := 0
	for got := range l.All() {
		if got != k {
			t.Fatalf("the range yields %d, want %d", got, k)
		}
		k += 2
	}
	if k != many || l.Len() != many/2 {
		t.Errorf("the range yields %d keys, Len() = %d", k/2, l.Len())
	}
}

// The same deeds give the same answers each time.
func TestSameEachTime(t *testing.T) {
	row := func() []string {
		r := rand.New(rand.NewPCG(15, 2))
		l := of[string]()
		var told []string
		for range 500 {
			k := string(rune('a' + r.IntN(9)))
			if r.IntN(3) == 0 {
				l.Drop(k)
			} else {
				l.Use(k)
			}
			told = append(told, slices.Collect(l.All())...)
		}
		return told
	}
	first := row()
	for range 5 {
		if !slices.Equal(row(), first) {
			t.Fatal("another row of keys")
		}
	}
}
