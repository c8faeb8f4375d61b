package sky

import (
	"math"
	"math/big"
	"math/rand/v2"
	"slices"
	"testing"

	"punchcut/api"
)

func rect(x, y, w, h int) api.Rect { return api.Rect{X: x, Y: y, W: w, H: h} }

// laid is the skyline of a page on which rectangles are put, one after the other.
func laid(t *testing.T, w, h int, rs ...api.Rect) *Sky {
	t.Helper()
	s := Of(w, h)
	for _, r := range rs {
		if !s.Put(r) {
			t.Fatalf("Put(%+v) = false on a page of %d by %d", r, w, h)
		}
	}
	return s
}

// heights are what High says of a skyline's places: of those from 0 on up to the first one that is not there.
func heights(s *Sky) []int {
	var list []int
	for x := 0; s.High(x) != -1; x++ {
		list = append(list, s.High(x))
	}
	return list
}

func checkHeights(t *testing.T, s *Sky, want ...int) {
	t.Helper()
	if got := heights(s); !slices.Equal(got, want) {
		t.Fatalf("the heights are %v, want %v", got, want)
	}
}

func checkSteps(t *testing.T, s *Sky, want ...[2]int) {
	t.Helper()
	if got := s.Steps(); !slices.Equal(got, want) {
		t.Fatalf("Steps() = %v, want %v", got, want)
	}
}

func checkFit(t *testing.T, s *Sky, w, h int, want api.Rect) {
	t.Helper()
	if got, ok := s.Fit(w, h); got != want || !ok {
		t.Fatalf("Fit(%d, %d) = %+v, %t; want %+v", w, h, got, ok, want)
	}
}

func checkNoFit(t *testing.T, s *Sky, w, h int) {
	t.Helper()
	if got, ok := s.Fit(w, h); ok || got != (api.Rect{}) {
		t.Fatalf("Fit(%d, %d) = %+v, %t; want the zero one and false", w, h, got, ok)
	}
}

// checkRefused puts a rectangle that does not go, behind which all heights must be as before.
func checkRefused(t *testing.T, s *Sky, r api.Rect) {
	t.Helper()
	before := heights(s)
	if s.Put(r) {
		t.Fatalf("Put(%+v) = true over the heights %v", r, before)
	}
	checkHeights(t, s, before...)
}

// wild are numbers of any kind: small ones, ones at the bounds of an int and of powers of 2, and random ones.
func wild(r *rand.Rand) int {
	switch r.IntN(4) {
	case 0:
		return r.IntN(16) - 4
	case 1:
		return r.IntN(200) - 100
	case 2:
		return 1<<r.IntN(64) + r.IntN(3) - 1
	}
	return int(r.Uint64())
}

func whole(n int) *big.Int { return big.NewInt(int64(n)) }

// page is a skyline by another way: the rectangles that were put, in order.
type page struct {
	w, h int
	rs   []api.Rect
}

func newPage(w, h int) *page {
	limit := func(n int) int {
		switch {
		case n < 0:
			return 0
		case n > 64:
			return 64
		}
		return n
	}
	return &page{w: limit(w), h: limit(h)}
}

// high is the upper side of the last rectangle that was put over a place.
func (p *page) high(x int) int {
	if x < 0 || x >= p.w {
		return -1
	}
	for _, r := range slices.Backward(p.rs) {
		if r.X <= x && x <= r.X+r.W-1 {
			return r.Y + r.H
		}
	}
	return 0
}

func (p *page) steps() [][2]int {
	var steps [][2]int
	before := -1
	for x := range p.w {
		if high := p.high(x); high != before {
			steps = append(steps, [2]int{x, high})
			before = high
		}
	}
	return steps
}

// within tells in numbers of any size whether a rectangle with places of its own lies within the page.
func (p *page) within(r api.Rect) bool {
	right, upper := new(big.Int).Add(whole(r.X), whole(r.W)), new(big.Int).Add(whole(r.Y), whole(r.H))
	return r.W > 0 && r.H > 0 && r.X >= 0 && r.Y >= 0 && right.Cmp(whole(p.w)) <= 0 && upper.Cmp(whole(p.h)) <= 0
}

// under is the greatest height of a rectangle's places that are in the page.
func (p *page) under(r api.Rect) int {
	greatest := 0
	for x := range p.w {
		if x >= r.X && x-r.X < r.W {
			greatest = max(greatest, p.high(x))
		}
	}
	return greatest
}

// fit lists all rectangles that fit, and takes the first one of the lowest ones.
func (p *page) fit(w, h int) (api.Rect, bool) {
	var all []api.Rect
	for _, step := range p.steps() {
		r := rect(step[0], 0, w, h)
		r.Y = p.under(r)
		if p.within(r) {
			all = append(all, r)
		}
	}
	slices.SortStableFunc(all, func(a, b api.Rect) int { return a.Y - b.Y })
	if len(all) == 0 {
		return api.Rect{}, false
	}
	return all[0], true
}

func (p *page) put(r api.Rect) bool {
	if !p.within(r) || r.Y < p.under(r) {
		return false
	}
	p.rs = append(p.rs, r)
	return true
}

// checkSame holds a skyline against the page that it is to be of.
func checkSame(t *testing.T, s *Sky, p *page) {
	t.Helper()
	for x := -2; x < 68; x++ {
		if got, want := s.High(x), p.high(x); got != want {
			t.Fatalf("High(%d) = %d, want %d, behind %+v", x, got, want, *p)
		}
	}
	checkSteps(t, s, p.steps()...)
}

func checkSameFit(t *testing.T, s *Sky, p *page, w, h int) {
	t.Helper()
	if want, ok := p.fit(w, h); ok {
		checkFit(t, s, w, h, want)
	} else {
		checkNoFit(t, s, w, h)
	}
}

// P14.1: Of, High, Steps.

func TestOf(t *testing.T) {
	for _, side := range [][2]int{
		{math.MinInt, 0}, {-64, 0}, {-1, 0}, {0, 0}, {1, 1}, {2, 2}, {63, 63}, {64, 64}, {65, 64}, {66, 64}, {1 << 32, 64}, {math.MaxInt, 64},
	} {
		asked, length := side[0], side[1]
		// The page is as wide as it has places, and as high as what fits at most.
		s := Of(asked, 5)
		checkHeights(t, s, make([]int, length)...)
		if length > 0 {
			checkSteps(t, s, [2]int{0, 0})
			checkFit(t, s, length, 5, rect(0, 0, length, 5))
		} else {
			checkSteps(t, s)
			checkNoFit(t, s, 1, 1)
		}
		checkNoFit(t, s, length+1, 1)
		s = Of(5, asked)
		checkHeights(t, s, 0, 0, 0, 0, 0)
		checkSteps(t, s, [2]int{0, 0})
		if length > 0 {
			checkFit(t, s, 5, length, rect(0, 0, 5, length))
		}
		checkNoFit(t, s, 1, length+1)
	}
}

// A page of which one side is 0 has places if that is the height, but none for a rectangle.
func TestOfOneSide(t *testing.T) {
	for _, x := range []struct {
		w, h   int
		places int
	}{{0, 0, 0}, {0, 7, 0}, {-3, 7, 0}, {7, 0, 7}, {7, -3, 7}, {-1, -1, 0}} {
		s := Of(x.w, x.h)
		checkHeights(t, s, make([]int, x.places)...)
		if got := len(s.Steps()); got != min(x.places, 1) {
			t.Errorf("a page of %d by %d has %d steps", x.w, x.h, got)
		}
		checkNoFit(t, s, 1, 1)
		checkRefused(t, s, rect(0, 0, 1, 1))
		checkRefused(t, s, rect(0, 0, 1, 0))
		checkRefused(t, s, rect(0, 0, 0, 1))
	}
}

func TestHigh(t *testing.T) {
	s := laid(t, 6, 9, rect(0, 0, 1, 4), rect(5, 2, 1, 7))
	for _, x := range []struct{ place, want int }{
		{-1, -1}, {0, 4}, {1, 0}, {4, 0}, {5, 9}, {6, -1}, {7, -1}, {math.MinInt, -1}, {math.MaxInt, -1}, {-6, -1}, {1 << 32, -1},
	} {
		if got := s.High(x.place); got != x.want {
			t.Errorf("High(%d) = %d, want %d", x.place, got, x.want)
		}
	}
}

func TestSteps(t *testing.T) {
	checkSteps(t, Of(8, 8), [2]int{0, 0})
	checkSteps(t, Of(0, 8))
	checkSteps(t, Of(1, 8), [2]int{0, 0})
	checkSteps(t, laid(t, 8, 8, rect(0, 0, 3, 2), rect(3, 0, 2, 2)), [2]int{0, 2}, [2]int{5, 0})
	checkSteps(t, laid(t, 8, 8, rect(2, 0, 2, 2), rect(4, 1, 2, 1)), [2]int{0, 0}, [2]int{2, 2}, [2]int{6, 0})
	checkSteps(t, laid(t, 8, 8, rect(7, 0, 1, 3)), [2]int{0, 0}, [2]int{7, 3})
	checkSteps(t, laid(t, 8, 8, rect(0, 0, 8, 3)), [2]int{0, 3})
	checkSteps(t, laid(t, 4, 8, rect(0, 0, 1, 3), rect(1, 0, 1, 2), rect(2, 0, 1, 3), rect(3, 0, 1, 2)), [2]int{0, 3}, [2]int{1, 2}, [2]int{2, 3}, [2]int{3, 2})
}

func TestStepsIsNew(t *testing.T) {
	s := laid(t, 8, 8, rect(2, 0, 2, 2))
	steps := s.Steps()
	for k := range steps {
		steps[k] = [2]int{9, 9}
	}
	checkSteps(t, s, [2]int{0, 0}, [2]int{2, 2}, [2]int{4, 0})
	checkHeights(t, s, 0, 0, 2, 2, 0, 0, 0, 0)
}

func TestSkiesAreApart(t *testing.T) {
	a, b := Of(3, 3), Of(3, 3)
	a.Put(rect(0, 0, 2, 2))
	checkHeights(t, a, 2, 2, 0)
	checkHeights(t, b, 0, 0, 0)
}

// P14.2: Fit.

func TestChapter(t *testing.T) {
	s := laid(t, 8, 8, rect(0, 0, 3, 2))
	checkFit(t, s, 6, 1, rect(0, 2, 6, 1))
	checkFit(t, s, 5, 1, rect(3, 0, 5, 1))
}

func TestFitWithoutSize(t *testing.T) {
	s := laid(t, 8, 8, rect(0, 0, 3, 2))
	for _, size := range [][2]int{
		{0, 1}, {1, 0}, {0, 0}, {-1, 1}, {1, -1}, {-1, -1}, {math.MinInt, 1}, {1, math.MinInt}, {math.MinInt, math.MinInt},
		{math.MaxInt, 1}, {1, math.MaxInt}, {math.MaxInt, math.MaxInt}, {0, math.MaxInt}, {math.MinInt, math.MaxInt},
	} {
		checkNoFit(t, s, size[0], size[1])
	}
}

func TestFitOfThePage(t *testing.T) {
	s := Of(8, 5)
	checkFit(t, s, 8, 5, rect(0, 0, 8, 5))
	checkFit(t, s, 8, 1, rect(0, 0, 8, 1))
	checkFit(t, s, 1, 5, rect(0, 0, 1, 5))
	checkNoFit(t, s, 9, 5)
	checkNoFit(t, s, 8, 6)
	checkNoFit(t, s, 9, 1)
	checkNoFit(t, s, 1, 6)
	// Above a rectangle there is as much less, wherever the other one would stand on it.
	s = laid(t, 8, 5, rect(7, 0, 1, 2))
	checkFit(t, s, 8, 3, rect(0, 2, 8, 3))
	checkNoFit(t, s, 8, 4)
	checkFit(t, s, 7, 5, rect(0, 0, 7, 5))
}

func TestFitOnTheGreatestHeight(t *testing.T) {
	// From place 0 on the greatest height is that of the last place, or of one in the middle.
	checkFit(t, laid(t, 5, 9, rect(4, 0, 1, 6)), 5, 2, rect(0, 6, 5, 2))
	checkFit(t, laid(t, 5, 9, rect(2, 0, 1, 6)), 5, 2, rect(0, 6, 5, 2))
	// The first place is the lowest one, but not the whole rectangle has room on it.
	checkFit(t, laid(t, 6, 9, rect(1, 0, 2, 5), rect(3, 0, 3, 2)), 2, 1, rect(3, 2, 2, 1))
	// On the greatest height there is no room left, but there is elsewhere.
	checkFit(t, laid(t, 6, 9, rect(2, 0, 1, 8), rect(3, 0, 3, 7)), 3, 2, rect(3, 7, 3, 2))
	checkNoFit(t, laid(t, 6, 9, rect(2, 0, 1, 8), rect(3, 0, 3, 7)), 4, 2)
}

func TestFitTakesTheFirst(t *testing.T) {
	s := laid(t, 9, 9, rect(0, 0, 1, 4), rect(3, 0, 1, 4), rect(6, 0, 1, 4))
	checkFit(t, s, 2, 3, rect(1, 0, 2, 3))
	checkFit(t, s, 3, 3, rect(0, 4, 3, 3))
	// From the gaps on it would stand on 4 as well, and from place 0 on it does.
	checkFit(t, s, 7, 1, rect(0, 4, 7, 1))
	// A later one is lower.
	checkFit(t, laid(t, 9, 9, rect(0, 0, 3, 3), rect(3, 0, 3, 2), rect(6, 0, 3, 1)), 2, 2, rect(6, 1, 2, 2))
}

// A rectangle begins where a step begins, at the left of what is as low.
func TestFitBeginsAtSteps(t *testing.T) {
	checkFit(t, laid(t, 8, 8, rect(0, 0, 1, 1)), 3, 3, rect(1, 0, 3, 3))
	// The last step is not wide enough.
	checkFit(t, laid(t, 8, 8, rect(0, 0, 6, 3)), 3, 1, rect(0, 3, 3, 1))
	s := laid(t, 8, 8, rect(0, 0, 4, 1), rect(4, 0, 4, 5))
	checkFit(t, s, 2, 1, rect(0, 1, 2, 1))
	checkFit(t, s, 4, 1, rect(0, 1, 4, 1))
	// From the second step on it would not be within the page.
	checkFit(t, s, 5, 1, rect(0, 5, 5, 1))
}

func TestFitChangesNothing(t *testing.T) {
	s := laid(t, 8, 8, rect(0, 0, 3, 2))
	before, _ := s.Fit(4, 4)
	after, _ := s.Fit(4, 4)
	if before != after {
		t.Errorf("Fit = %+v, and then %+v", before, after)
	}
	checkHeights(t, s, 2, 2, 2, 0, 0, 0, 0, 0)
}

// P14.3: Put, Rebuild.

func TestPut(t *testing.T) {
	s := Of(8, 9)
	for _, x := range []struct {
		r    api.Rect
		want []int
	}{
		{rect(2, 0, 3, 2), []int{0, 0, 2, 2, 2, 0, 0, 0}},
		{rect(0, 3, 1, 1), []int{4, 0, 2, 2, 2, 0, 0, 0}},
		{rect(4, 2, 2, 1), []int{4, 0, 2, 2, 3, 3, 0, 0}},
		{rect(1, 5, 3, 2), []int{4, 7, 7, 7, 3, 3, 0, 0}},
		{rect(7, 0, 1, 9), []int{4, 7, 7, 7, 3, 3, 0, 9}},
		{rect(0, 7, 7, 2), []int{9, 9, 9, 9, 9, 9, 9, 9}},
	} {
		if !s.Put(x.r) {
			t.Fatalf("Put(%+v) = false", x.r)
		}
		checkHeights(t, s, x.want...)
	}
	checkRefused(t, s, rect(0, 9, 1, 1))
}

func TestPutRefused(t *testing.T) {
	s := laid(t, 8, 8, rect(3, 0, 2, 4))
	for _, r := range []api.Rect{
		rect(0, 0, 0, 1), rect(0, 0, 1, 0), rect(0, 0, -1, 1), rect(0, 0, 1, -1), rect(8, 0, 0, 1), rect(0, 8, 1, 0), rect(4, 4, -2, 1), {},
		rect(-1, 0, 1, 1), rect(-1, 0, 2, 1), rect(0, -1, 1, 1), rect(0, -1, 1, 2), rect(-1, -1, 3, 3),
		rect(7, 0, 2, 1), rect(8, 0, 1, 1), rect(0, 4, 9, 1), rect(0, 7, 1, 2), rect(0, 8, 1, 1), rect(0, 0, 1, 9), rect(5, 0, 3, 9), rect(5, 0, 4, 8),
		rect(3, 3, 1, 1), rect(2, 3, 2, 1), rect(4, 3, 2, 5), rect(0, 3, 8, 5), rect(0, 0, 4, 1),
	} {
		checkRefused(t, s, r)
	}
	checkHeights(t, s, 0, 0, 0, 4, 4, 0, 0, 0)
}

// What just goes, by as little as what just doesn't.
func TestPutAtTheEdge(t *testing.T) {
	for _, r := range []api.Rect{
		rect(7, 0, 1, 1), rect(5, 0, 3, 8), rect(0, 7, 1, 1), rect(0, 0, 1, 8), rect(0, 4, 8, 4),
		rect(3, 4, 1, 1), rect(2, 4, 2, 1), rect(4, 4, 2, 4), rect(4, 5, 2, 3), rect(0, 5, 8, 1), rect(0, 7, 8, 1),
	} {
		s := laid(t, 8, 8, rect(3, 0, 2, 4), r)
		for x := range 8 {
			want := 0
			switch {
			case x >= r.X && x < r.X+r.W:
				want = r.Y + r.H
			case x == 3 || x == 4:
				want = 4
			}
			if got := s.High(x); got != want {
				t.Errorf("behind Put(%+v) High(%d) = %d, want %d", r, x, got, want)
			}
		}
	}
}

// Sums that wrap around make no rectangle lie within the page (W5).
func TestPutWraps(t *testing.T) {
	s := laid(t, 8, 8, rect(3, 0, 2, 4))
	ends := []int{math.MinInt, math.MinInt + 1, math.MaxInt - 1, math.MaxInt, -1 << 62, 1 << 62}
	for _, a := range ends {
		checkRefused(t, s, rect(a, 4, 1, 1))
		checkRefused(t, s, rect(1, 4, a, 1))
		checkRefused(t, s, rect(0, a, 1, 1))
		checkRefused(t, s, rect(0, 5, 1, a))
		checkNoFit(t, s, a, 1)
		checkNoFit(t, s, 1, a)
		for _, b := range ends {
			checkRefused(t, s, rect(a, 4, b, 1))
			checkRefused(t, s, rect(0, a, 1, b))
			checkRefused(t, s, rect(a, b, a, b))
			checkNoFit(t, s, a, b)
		}
	}
}

func TestRebuild(t *testing.T) {
	const far = 1 << 20
	for _, x := range []struct {
		name string
		rs   []api.Rect
		want []int
	}{
		{"none", nil, []int{0, 0, 0, 0, 0, 0}},
		{"an empty list", []api.Rect{}, []int{0, 0, 0, 0, 0, 0}},
		{"one", []api.Rect{rect(1, 2, 3, 1)}, []int{0, 3, 3, 3, 0, 0}},
		{"two apart", []api.Rect{rect(4, 1, 2, 1), rect(0, 0, 1, 1)}, []int{1, 0, 0, 0, 2, 2}},
		{"the lower one later", []api.Rect{rect(1, 3, 3, 1), rect(2, 0, 3, 2)}, []int{0, 4, 4, 4, 2, 0}},
		{"the lower one before", []api.Rect{rect(2, 0, 3, 2), rect(1, 3, 3, 1)}, []int{0, 4, 4, 4, 2, 0}},
		{"one within another", []api.Rect{rect(0, 0, 6, 4), rect(2, 1, 1, 1), rect(3, 2, 1, 3)}, []int{4, 4, 4, 5, 4, 4}},
		{"over the left side", []api.Rect{rect(-2, 0, 4, 2)}, []int{2, 2, 0, 0, 0, 0}},
		{"over the right side", []api.Rect{rect(4, 0, 9, 2)}, []int{0, 0, 0, 0, 2, 2}},
		{"over the upper side", []api.Rect{rect(2, 4, 2, 3)}, []int{0, 0, 5, 5, 0, 0}},
		{"over the lower side", []api.Rect{rect(2, -3, 2, 5)}, []int{0, 0, 2, 2, 0, 0}},
		{"over all sides", []api.Rect{rect(-far, -far, far+far/2, far), rect(-1, -1, 8, 9)}, []int{5, 5, 5, 5, 5, 5}},
		{"left of it", []api.Rect{rect(-4, 0, 4, 2), rect(-far, 0, far, 2)}, []int{0, 0, 0, 0, 0, 0}},
		{"right of it", []api.Rect{rect(6, 0, 4, 2), rect(far, 0, far, 2)}, []int{0, 0, 0, 0, 0, 0}},
		{"above it", []api.Rect{rect(1, 5, 1, 2), rect(2, 6, 1, 2), rect(3, far, 1, far)}, []int{0, 5, 5, 5, 0, 0}},
		{"below it", []api.Rect{rect(1, -3, 1, 3), rect(2, -3, 1, 2), rect(3, -far, 1, far), rect(4, -far, 1, -far)}, []int{0, 0, 0, 0, 0, 0}},
		{"no width", []api.Rect{rect(1, 1, 0, 3), rect(2, 1, -1, 3), rect(5, 1, -far, 3), rect(far, 1, -far, 3)}, []int{0, 0, 0, 0, 0, 0}},
		{"no height", []api.Rect{rect(1, 3, 1, 0), rect(2, 3, 1, -1), rect(3, 3, 1, -3), rect(4, 3, 1, -4), rect(5, far, 1, -far+1)}, []int{0, 3, 2, 0, 0, 1}},
		{"a height below none", []api.Rect{rect(0, 0, 2, 1), rect(0, -far, 6, -far), rect(1, 3, 1, -far)}, []int{1, 1, 0, 0, 0, 0}},
		{"as far as goes", []api.Rect{rect(-far, -far, far+3, far+4), rect(3, far, far, far)}, []int{4, 4, 4, 5, 5, 5}},
		{"all of it", []api.Rect{rect(-far, far, far, far), rect(-far, far, -far, far), rect(0, far, far, far)}, []int{5, 5, 5, 5, 5, 5}},
		{"one place of it", []api.Rect{rect(-far+1, 2, far, 1), rect(5, 3, far, 1)}, []int{3, 0, 0, 0, 0, 4}},
	} {
		before := slices.Clone(x.rs)
		s := Rebuild(6, 5, x.rs)
		if got := heights(s); !slices.Equal(got, x.want) {
			t.Errorf("%s: the heights are %v, want %v", x.name, got, x.want)
		}
		if !slices.Equal(x.rs, before) {
			t.Errorf("%s: the rectangles have become %v", x.name, x.rs)
		}
		slices.Reverse(before)
		if got := heights(Rebuild(6, 5, before)); !slices.Equal(got, x.want) {
			t.Errorf("%s, the other way round: the heights are %v, want %v", x.name, got, x.want)
		}
	}
}

// The page of Rebuild is that of Of, whose skyline goes on from there.
func TestRebuildGoesOn(t *testing.T) {
	rs := []api.Rect{rect(0, 1, 3, 2)}
	s := Rebuild(8, 8, rs)
	rs[0] = rect(0, 0, 8, 8)
	checkFit(t, s, 6, 1, rect(0, 3, 6, 1))
	checkFit(t, s, 5, 8, rect(3, 0, 5, 8))
	checkNoFit(t, s, 6, 6)
	if !s.Put(rect(2, 3, 2, 1)) {
		t.Error("Put = false")
	}
	checkHeights(t, s, 3, 3, 4, 4, 0, 0, 0, 0)
	checkHeights(t, Rebuild(65, 65, []api.Rect{rect(0, 0, 64, 65)}), slices.Repeat([]int{64}, 64)...)
	checkHeights(t, Rebuild(2, 65, []api.Rect{rect(0, 60, 1, 3), rect(1, 60, 1, 5)}), 63, 64)
	checkHeights(t, Rebuild(0, 8, []api.Rect{rect(0, 0, 8, 8)}))
	checkHeights(t, Rebuild(-1, 8, []api.Rect{rect(-8, 0, 16, 8)}))
	checkHeights(t, Rebuild(3, 0, []api.Rect{rect(0, 0, 8, 8)}), 0, 0, 0)
	checkHeights(t, Rebuild(3, -1, []api.Rect{rect(0, 0, 8, 8)}), 0, 0, 0)
}

// wantRebuilt is the height of a place over rectangles: it is asked of each height from the top on whether a rectangle reaches it.
func wantRebuilt(top, x int, rs []api.Rect) int {
	for height := top; height > 0; height-- {
		if slices.ContainsFunc(rs, func(r api.Rect) bool { return r.X <= x && x < r.X+r.W && r.Y+r.H >= height }) {
			return height
		}
	}
	return 0
}

func TestRebuildAny(t *testing.T) {
	r := rand.New(rand.NewPCG(14, 1))
	number := func() int {
		if r.IntN(8) == 0 {
			return r.IntN(1<<21+1) - 1<<20
		}
		return r.IntN(24) - 6
	}
	for range 20000 {
		w, h := r.IntN(20), r.IntN(20)
		var rs []api.Rect
		for range r.IntN(7) {
			rs = append(rs, rect(number(), number(), number(), number()))
		}
		s := Rebuild(w, h, rs)
		var want []int
		for x := range w {
			want = append(want, wantRebuilt(h, x, rs))
		}
		if got := heights(s); !slices.Equal(got, want) {
			t.Fatalf("Rebuild(%d, %d, %v): the heights are %v, want %v", w, h, rs, got, want)
		}
	}
}

// Rectangles on a page, wherever they fit and elsewhere, are held against the page by another way.
func TestAny(t *testing.T) {
	r := rand.New(rand.NewPCG(14, 2))
	for range 1500 {
		w, h := r.IntN(72)-3, r.IntN(72)-3
		s, p := Of(w, h), newPage(w, h)
		for range 12 {
			a := rect(r.IntN(70)-3, r.IntN(70)-3, r.IntN(20)-1, r.IntN(20)-1)
			checkSameFit(t, s, p, a.W, a.H)
			if fit, ok := s.Fit(a.W, a.H); ok && r.IntN(3) > 0 {
				a = fit
			}
			if r.IntN(2) == 0 {
				a.Y = p.under(a) + r.IntN(3) - 1
			}
			if got, want := s.Put(a), p.put(a); got != want {
				t.Fatalf("Put(%+v) = %t, want %t, behind %+v", a, got, want, *p)
			}
			checkSame(t, s, p)
		}
		// Of the rectangles that were put one after the other, each is above those before it.
		checkHeights(t, Rebuild(w, h, p.rs), heights(s)...)
	}
}

// All small pages with all that can be put there twice: each answer is as by another way.
func TestAllSmallPages(t *testing.T) {
	var all []api.Rect
	for n := range 6 * 6 * 4 * 4 {
		all = append(all, rect(n%6-1, n/6%6-1, n/36%4, n/144))
	}
	r := rand.New(rand.NewPCG(14, 3))
	for w := range 5 {
		for h := range 5 {
			for _, a := range all {
				s, p := Of(w, h), newPage(w, h)
				if s.Put(a) != p.put(a) {
					t.Fatalf("Put(%+v) on %d by %d", a, w, h)
				}
				b := all[r.IntN(len(all))]
				if s.Put(b) != p.put(b) {
					t.Fatalf("Put(%+v) behind Put(%+v) on %d by %d", b, a, w, h)
				}
				checkSame(t, s, p)
				for n := range 36 {
					checkSameFit(t, s, p, n%6, n/6)
				}
			}
		}
	}
}

// Whatever the numbers are, each call ends without a panic (W1), and answers as by another way.
func TestAnyNumbers(t *testing.T) {
	r := rand.New(rand.NewPCG(14, 4))
	for range 20000 {
		w, h := wild(r), wild(r)
		s, p := Of(w, h), newPage(w, h)
		for range 6 {
			a := rect(wild(r), wild(r), wild(r), wild(r))
			checkSameFit(t, s, p, a.W, a.H)
			if got, want := s.Put(a), p.put(a); got != want {
				t.Fatalf("Put(%+v) = %t, want %t, behind %+v", a, got, want, *p)
			}
			if got, want := s.High(a.X), p.high(a.X); got != want {
				t.Fatalf("High(%d) = %d, want %d, behind %+v", a.X, got, want, *p)
			}
		}
		checkSteps(t, s, p.steps()...)
	}
}

// Beyond the numbers for which Rebuild promises something, it ends without a panic (W1), the same each time (W2), with heights of the page.
func TestRebuildBeyond(t *testing.T) {
	r := rand.New(rand.NewPCG(14, 5))
	for range 20000 {
		w, h := wild(r), wild(r)
		var rs []api.Rect
		for range r.IntN(5) {
			rs = append(rs, rect(wild(r), wild(r), wild(r), wild(r)))
		}
		before := slices.Clone(rs)
		s, empty := Rebuild(w, h, rs), newPage(w, h)
		checkHeights(t, Rebuild(w, h, rs), heights(s)...)
		if !slices.Equal(rs, before) {
			t.Fatalf("the rectangles %v have become %v", before, rs)
		}
		if len(heights(s)) != empty.w {
			t.Fatalf("Rebuild(%d, %d, %v) has %d places", w, h, rs, len(heights(s)))
		}
		for x, high := range heights(s) {
			if high < 0 || high > empty.h {
				t.Fatalf("Rebuild(%d, %d, %v): High(%d) = %d", w, h, rs, x, high)
			}
		}
	}
}

// A zero skyline has no places: each call answers all the same.
func TestZeroSky(t *testing.T) {
	s := new(Sky)
	checkHeights(t, s)
	checkSteps(t, s)
	checkNoFit(t, s, 1, 1)
	checkRefused(t, s, rect(0, 0, 1, 1))
}
