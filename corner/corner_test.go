package corner

import (
	"fmt"
	"math"
	"math/big"
	"math/rand/v2"
	"slices"
	"testing"

	"punchcut/api"
)

func at(x, y int) api.Point { return api.Point{X: x, Y: y} }

// way is the edge from 0, 0 to a point.
func way(x, y int) api.Edge { return api.Edge{B: at(x, y)} }

// ring is the edges from each point to the next one, and from the last one to the first.
func ring(points ...api.Point) []api.Edge {
	var es []api.Edge
	for k, a := range points {
		es = append(es, api.Edge{A: a, B: points[(k+1)%len(points)]})
	}
	return es
}

// along is the edges that go one way after the other from 0, 0 on.
func along(ways ...api.Point) []api.Edge {
	var es []api.Edge
	var a api.Point
	for _, w := range ways {
		b := at(a.X+w.X, a.Y+w.Y)
		es = append(es, api.Edge{A: a, B: b})
		a = b
	}
	return es
}

// split is the edges, each in so many equal parts; an edge without a number stays as it is.
func split(es []api.Edge, parts ...int) []api.Edge {
	var all []api.Edge
	for k, e := range es {
		count := 1
		if k < len(parts) {
			count = parts[k]
		}
		x, y := e.B.X-e.A.X, e.B.Y-e.A.Y
		for j := range count {
			all = append(all, api.Edge{A: at(e.A.X+x*j/count, e.A.Y+y*j/count), B: at(e.A.X+x*(j+1)/count, e.A.Y+y*(j+1)/count)})
		}
	}
	return all
}

// from is the edges from the k-th one on, in cyclic order.
func from(es []api.Edge, k int) []api.Edge { return slices.Concat(es[k:], es[:k]) }

// back is the edges the other way round.
func back(es []api.Edge) []api.Edge {
	turned := make([]api.Edge, len(es))
	for k, e := range es {
		turned[len(es)-1-k] = api.Edge{A: e.B, B: e.A}
	}
	return turned
}

// moved is the edges somewhere else, and so many times as long.
func moved(es []api.Edge, x, y, times int) []api.Edge {
	var all []api.Edge
	for _, e := range es {
		all = append(all, api.Edge{A: at(e.A.X*times+x, e.A.Y*times+y), B: at(e.B.X*times+x, e.B.Y*times+y)})
	}
	return all
}

// wheel is 16 edges without a corner: each turns from the one before it by less than 23 degrees.
func wheel() []api.Edge {
	return along(at(12, 0), at(12, 5), at(9, 9), at(5, 12), at(0, 12), at(-5, 12), at(-9, 9), at(-12, 5), at(-12, 0), at(-12, -5), at(-9, -9), at(-5, -12), at(0, -12), at(5, -12), at(9, -9), at(12, -5))
}

// drop is 13 edges with one corner, at the first one.
func drop() []api.Edge {
	return along(at(27, 27), at(5, 12), at(0, 12), at(-5, 12), at(-9, 9), at(-12, 5), at(-12, 0), at(-12, -5), at(-9, -9), at(-5, -12), at(0, -12), at(5, -12), at(27, -27))
}

// polygon is m edges with a corner at each, for an m from 2 to 7; they can be split into 1 to 6 parts.
func polygon(m int) []api.Edge {
	var points []api.Point
	switch m {
	case 2:
		points = []api.Point{at(0, 0), at(2, 1)}
	case 3:
		points = []api.Point{at(0, 0), at(4, 0), at(0, 4)}
	case 4:
		points = []api.Point{at(0, 0), at(4, 0), at(4, 4), at(0, 4)}
	case 5:
		points = []api.Point{at(0, 0), at(4, 0), at(5, 3), at(2, 6), at(-1, 3)}
	case 6:
		points = []api.Point{at(0, 0), at(4, 0), at(6, 3), at(4, 6), at(0, 6), at(-2, 3)}
	case 7:
		points = []api.Point{at(0, 0), at(4, 0), at(6, 3), at(4, 6), at(2, 4), at(0, 6), at(-2, 3)}
	}
	return moved(ring(points...), 0, 0, 60)
}

// wild are numbers of any kind: small ones, ones at the bounds of an int and of powers of 2, and random ones.
func wild(r *rand.Rand) int {
	switch r.IntN(4) {
	case 0:
		return r.IntN(60) - 30
	case 1:
		return r.IntN(1<<17) - 1<<16
	case 2:
		return 1<<r.IntN(64) + r.IntN(3) - 1
	}
	return int(r.Uint64())
}

// wantIs is P11.1 by another way: there is no corner, if both edges have a length and b turns neither more to the left than the way of two steps along a and one to the left of it, nor more to the right than that of two steps and one to the right.
func wantIs(a, b api.Edge) bool {
	number := func(n int) *big.Int { return big.NewInt(int64(n)) }
	sub := func(p, q int) *big.Int { return new(big.Int).Sub(number(p), number(q)) }
	mul := func(p, q *big.Int) *big.Int { return new(big.Int).Mul(p, q) }
	ax, ay, bx, by := sub(a.B.X, a.A.X), sub(a.B.Y, a.A.Y), sub(b.B.X, b.A.X), sub(b.B.Y, b.A.Y)
	if a.A == a.B || b.A == b.B {
		return true
	}
	twiceX, twiceY := mul(number(2), ax), mul(number(2), ay)
	leftX, leftY := new(big.Int).Sub(twiceX, ay), new(big.Int).Add(twiceY, ax)
	rightX, rightY := new(big.Int).Add(twiceX, ay), new(big.Int).Sub(twiceY, ax)
	tooLeft := mul(leftX, by).Cmp(mul(leftY, bx)) > 0
	tooRight := mul(rightX, by).Cmp(mul(rightY, bx)) < 0
	return tooLeft || tooRight
}

// wantColours is P11.2 by another way, by corners that are known: each edge asks how many corners there are up to it.
func wantColours(n int, corners []int) []int {
	m := len(corners)
	colours := make([]int, n)
	for i := range colours {
		upTo := 0
		for _, c := range corners {
			if c <= i {
				upTo++
			}
		}
		switch {
		case m == 0:
			colours[i] = 7
		case m == 1:
			behind := i - corners[0]
			if behind < 0 {
				behind += n
			}
			// The first half has one edge more, if they are an odd number.
			colours[i] = 6
			if behind < (n+1)/2 {
				colours[i] = 5
			}
		default:
			k := (upTo + m - 1) % m
			colours[i] = []int{5, 6, 3}[k%3]
			if m%3 == 1 && k == m-1 {
				colours[i] = 6
			}
		}
	}
	return colours
}

// checkIs holds Is of two edges against the other way.
func checkIs(t *testing.T, a, b api.Edge) {
	t.Helper()
	if got, want := Is(a, b), wantIs(a, b); got != want {
		t.Fatalf("Is(%v, %v) = %t, want %t", a, b, got, want)
	}
}

// check holds the corners and colours of a contour against those that are wanted, and against W6.
func check(t *testing.T, es []api.Edge, corners, colours []int) {
	t.Helper()
	before := slices.Clone(es)
	if got := Corners(es); !slices.Equal(got, corners) {
		t.Fatalf("Corners(%v) = %v, want %v", es, got, corners)
	}
	if got := Colours(es); !slices.Equal(got, colours) {
		t.Fatalf("Colours(%v) = %v, want %v", es, got, colours)
	}
	all, cs := All([][]api.Edge{es})
	if !slices.Equal(all, es) || !slices.Equal(cs, colours) {
		t.Fatalf("All of one contour %v = %v, %v, want %v", es, all, cs, colours)
	}
	if !slices.Equal(es, before) {
		t.Fatalf("the edges %v have become %v", before, es)
	}
}

// checkKnown is check, with the colours by the other way.
func checkKnown(t *testing.T, es []api.Edge, corners []int) {
	t.Helper()
	check(t, es, corners, wantColours(len(es), corners))
}

// P11.1: Is.

func TestIsAtTheDot(t *testing.T) {
	for _, x := range []struct {
		a, b api.Edge
		want bool
	}{
		// A Dot of 0: at right angles, and without length.
		{way(10, 0), way(0, 1), true},
		{way(10, 0), way(0, -1), true},
		{way(3, 4), way(-4, 3), true},
		{way(3, 4), way(4, -3), true},
		{way(10, 0), way(0, 0), true},
		{way(0, 0), way(10, 0), true},
		{way(0, 0), way(0, 0), true},
		// 1, which goes straight on, turns by half a right angle, or by nearly a whole one.
		{way(1, 0), way(1, 0), false},
		{way(0, -1), way(0, -1), false},
		{way(1, 0), way(1, 1), true},
		{way(1, 0), way(1, -1), true},
		{way(10, 1), way(0, 1), true},
		{way(10, 1), way(1, -9), true},
		// -1, which turns back, or by little more than a right angle.
		{way(1, 0), way(-1, 0), true},
		{way(1, 0), way(-1, 1), true},
		{way(1, 0), way(-1, -1), true},
		{way(10, 1), way(0, -1), true},
		{way(10, 1), way(-1, 9), true},
		// The longest ones that there are.
		{api.Edge{A: at(-8192, 0), B: at(8192, 0)}, api.Edge{A: at(8192, 0), B: at(-8192, 0)}, true},
		{api.Edge{A: at(-8192, 0), B: at(8192, 0)}, api.Edge{A: at(-8192, 0), B: at(8192, 0)}, false},
		{api.Edge{A: at(-8192, -8192), B: at(8192, 8192)}, api.Edge{A: at(8192, 8192), B: at(-8192, -8192)}, true},
		{api.Edge{A: at(-8192, -8192), B: at(8192, 8192)}, api.Edge{A: at(8192, -8192), B: at(-8192, 8192)}, true},
		{api.Edge{A: at(-8192, -8192), B: at(8192, 8192)}, api.Edge{A: at(-8192, -8192), B: at(8192, 8192)}, false},
	} {
		if got := Is(x.a, x.b); got != x.want {
			t.Errorf("Is(%v, %v) = %t, want %t", x.a, x.b, got, x.want)
		}
		checkIs(t, x.a, x.b)
	}
}

// Twice the Cross just below the Dot, at it, and above it by 1 and by more, on both sides.
func TestIsAtTwiceTheCross(t *testing.T) {
	for _, x := range []struct {
		a, b api.Edge
		want bool
	}{
		{way(1, 0), way(6, 3), false},
		{way(1, 0), way(6, -3), false},
		{way(1, 0), way(7, 3), false},
		{way(1, 0), way(7, -3), false},
		{way(1, 0), way(5, 3), true},
		{way(1, 0), way(5, -3), true},
		{way(1, 0), way(2, 1), false},
		{way(1, 0), way(2, -1), false},
		{way(1, 0), way(3, 2), true},
		{way(1, 0), way(3, -2), true},
		{way(0, 1), way(-3, 6), false},
		{way(0, 1), way(3, 6), false},
		{way(0, 1), way(-3, 5), true},
		{way(0, 1), way(3, 5), true},
		{way(10, 0), way(10, 5), false},
		{way(10, 0), way(10, 6), true},
		{way(10, 0), way(10, -5), false},
		{way(10, 0), way(10, -6), true},
		// Slanted ones.
		{way(3, 1), way(1, 2), true},
		{way(3, 1), way(5, 5), false},
		{way(3, 1), way(7, -1), false},
		{way(4, 1), way(2, 1), false},
		{way(-7, -4), way(-10, -15), false},
		{way(-7, -4), way(-9, -14), true},
		// The longest ones that there are.
		{api.Edge{A: at(-8192, -8192), B: at(8192, -8192)}, api.Edge{A: at(-8192, 0), B: at(8192, 8192)}, false},
		{api.Edge{A: at(-8192, -8192), B: at(8192, -8192)}, api.Edge{A: at(-8192, -1), B: at(8192, 8192)}, true},
		{api.Edge{A: at(-8192, -8192), B: at(8192, -8192)}, api.Edge{A: at(-8192, 0), B: at(8192, -8192)}, false},
		{api.Edge{A: at(-8192, -8192), B: at(8192, -8192)}, api.Edge{A: at(-8192, 1), B: at(8192, -8192)}, true},
	} {
		if got := Is(x.a, x.b); got != x.want {
			t.Errorf("Is(%v, %v) = %t, want %t", x.a, x.b, got, x.want)
		}
		checkIs(t, x.a, x.b)
	}
}

func TestIsOfAllShortEdges(t *testing.T) {
	const most = 8
	for ax := -most; ax <= most; ax++ {
		for ay := -most; ay <= most; ay++ {
			for bx := -most; bx <= most; bx++ {
				for by := -most; by <= most; by++ {
					checkIs(t, way(ax, ay), way(bx, by))
				}
			}
		}
	}
}

// Where the edges are doesn't matter, and they need not touch.
func TestIsOfAnyEdges(t *testing.T) {
	r := rand.New(rand.NewPCG(11, 1))
	for j := range 200000 {
		most := []int{4, 100, api.EdgeFar}[j%3]
		point := func() api.Point { return at(r.IntN(2*most+1)-most, r.IntN(2*most+1)-most) }
		a, b := api.Edge{A: point(), B: point()}, api.Edge{A: point(), B: point()}
		checkIs(t, a, b)
		b.A = a.B
		checkIs(t, a, b)
		// Near the greatest angle without a corner.
		x, y := a.B.X-a.A.X, a.B.Y-a.A.Y
		near := at(2*x-y+r.IntN(3)-1, 2*y+x+r.IntN(3)-1)
		if j%2 == 0 {
			near = at(2*x+y+r.IntN(3)-1, 2*y-x+r.IntN(3)-1)
		}
		if max(near.X, near.Y) <= api.EdgeFar && min(near.X, near.Y) >= -api.EdgeFar {
			checkIs(t, a, way(near.X, near.Y))
		}
	}
}

// P11.1: Corners, and P11.2: Colours.

// The chapter's example.
func TestExample(t *testing.T) {
	triangle := ring(at(0, 0), at(9, 0), at(0, 9))
	check(t, triangle, []int{0, 1, 2}, []int{5, 6, 3})
	check(t, back(triangle), []int{0, 1, 2}, []int{5, 6, 3})
}

func TestNoEdges(t *testing.T) {
	for _, es := range [][]api.Edge{nil, {}, wheel()[:0]} {
		check(t, es, nil, nil)
	}
}

// One edge comes before itself: it has no corner, unless it has no length.
func TestOneEdge(t *testing.T) {
	check(t, []api.Edge{way(10, 0)}, nil, []int{7})
	check(t, []api.Edge{way(-3, 1)}, nil, []int{7})
	check(t, []api.Edge{{A: at(-8192, 8192), B: at(8192, -8192)}}, nil, []int{7})
	check(t, []api.Edge{way(0, 0)}, []int{0}, []int{5})
	check(t, []api.Edge{{A: at(8192, 8192), B: at(8192, 8192)}}, []int{0}, []int{5})
}

func TestNoCorners(t *testing.T) {
	for _, es := range [][]api.Edge{wheel(), back(wheel()), moved(wheel(), 500, -2000, 60)} {
		for k := range es {
			check(t, from(es, k), nil, []int{7, 7, 7, 7, 7, 7, 7, 7, 7, 7, 7, 7, 7, 7, 7, 7})
		}
	}
	es := split(moved(wheel(), 0, 0, 60), 3, 1, 4, 1, 5, 2, 6)
	for k := range es {
		checkKnown(t, from(es, k), nil)
	}
}

// One corner, at each place: 13 edges, an odd number, and 14.
func TestOneCorner(t *testing.T) {
	odd := moved(drop(), -100, 300, 60)
	check(t, odd, []int{0}, []int{5, 5, 5, 5, 5, 5, 5, 6, 6, 6, 6, 6, 6})
	check(t, from(odd, 12), []int{1}, []int{6, 5, 5, 5, 5, 5, 5, 5, 6, 6, 6, 6, 6})
	check(t, from(odd, 7), []int{6}, []int{6, 6, 6, 6, 6, 6, 5, 5, 5, 5, 5, 5, 5})
	check(t, from(odd, 1), []int{12}, []int{5, 5, 5, 5, 5, 5, 6, 6, 6, 6, 6, 6, 5})
	even := split(odd, 2)
	check(t, even, []int{0}, []int{5, 5, 5, 5, 5, 5, 5, 6, 6, 6, 6, 6, 6, 6})
	check(t, from(even, 13), []int{1}, []int{6, 5, 5, 5, 5, 5, 5, 5, 6, 6, 6, 6, 6, 6})
	check(t, from(even, 7), []int{7}, []int{6, 6, 6, 6, 6, 6, 6, 5, 5, 5, 5, 5, 5, 5})
	check(t, from(even, 1), []int{13}, []int{5, 5, 5, 5, 5, 5, 6, 6, 6, 6, 6, 6, 6, 5})
	for parts := 1; parts <= 6; parts++ {
		es := split(odd, 1, parts)
		for k := range es {
			checkKnown(t, from(es, k), []int{(len(es) - k) % len(es)})
			checkKnown(t, back(from(es, k)), []int{k})
		}
	}
}

// The fewest edges with one corner: those that do not close.
func TestOneCornerOfFewEdges(t *testing.T) {
	check(t, along(at(5, 0), at(5, 2)), nil, []int{7, 7})
	check(t, along(at(5, 0), at(4, 2), at(3, 3)), []int{0}, []int{5, 5, 6})
	check(t, along(at(4, 2), at(3, 3), at(5, 0)), []int{2}, []int{5, 6, 5})
	check(t, along(at(3, 3), at(5, 0), at(4, 2)), []int{1}, []int{6, 5, 5})
	check(t, along(at(5, 0), at(4, 2), at(3, 3), at(2, 4)), []int{0}, []int{5, 5, 6, 6})
	check(t, along(at(2, 4), at(5, 0), at(4, 2), at(3, 3)), []int{1}, []int{6, 5, 5, 6})
}

// As many corners as edges.
func TestEachEdgeWithACorner(t *testing.T) {
	for _, x := range []struct {
		corners, colours []int
	}{
		{[]int{0, 1}, []int{5, 6}},
		{[]int{0, 1, 2}, []int{5, 6, 3}},
		{[]int{0, 1, 2, 3}, []int{5, 6, 3, 6}},
		{[]int{0, 1, 2, 3, 4}, []int{5, 6, 3, 5, 6}},
		{[]int{0, 1, 2, 3, 4, 5}, []int{5, 6, 3, 5, 6, 3}},
		{[]int{0, 1, 2, 3, 4, 5, 6}, []int{5, 6, 3, 5, 6, 3, 6}},
	} {
		es := polygon(len(x.corners))
		for k := range es {
			check(t, from(es, k), x.corners, x.colours)
			check(t, back(from(es, k)), x.corners, x.colours)
		}
	}
}

// Pieces of several edges, of which the first ones of some are at the end.
func TestPieces(t *testing.T) {
	for _, x := range []struct {
		parts            []int
		from             int
		corners, colours []int
	}{
		{[]int{2, 3}, 0, []int{0, 2}, []int{5, 5, 6, 6, 6}},
		{[]int{2, 3}, 1, []int{1, 4}, []int{6, 5, 5, 5, 6}},
		{[]int{2, 3}, 4, []int{1, 3}, []int{6, 5, 5, 6, 6}},
		{[]int{2, 3}, 3, []int{2, 4}, []int{6, 6, 5, 5, 6}},
		{[]int{1, 2, 3}, 0, []int{0, 1, 3}, []int{5, 6, 6, 3, 3, 3}},
		{[]int{1, 2, 3}, 5, []int{1, 2, 4}, []int{3, 5, 6, 6, 3, 3}},
		{[]int{1, 2, 3}, 2, []int{1, 4, 5}, []int{3, 5, 5, 5, 6, 3}},
		{[]int{2, 1, 1, 2}, 0, []int{0, 2, 3, 4}, []int{5, 5, 6, 3, 6, 6}},
		{[]int{2, 1, 1, 2}, 1, []int{1, 2, 3, 5}, []int{6, 5, 6, 3, 3, 6}},
		{[]int{2, 1, 1, 2}, 5, []int{1, 3, 4, 5}, []int{6, 5, 5, 6, 3, 6}},
		{[]int{1, 1, 2, 1, 2}, 0, []int{0, 1, 2, 4, 5}, []int{5, 6, 3, 3, 5, 6, 6}},
		{[]int{1, 1, 2, 1, 2}, 6, []int{1, 2, 3, 5, 6}, []int{6, 5, 6, 3, 3, 5, 6}},
		{[]int{1, 1, 1, 1, 1, 2}, 0, []int{0, 1, 2, 3, 4, 5}, []int{5, 6, 3, 5, 6, 3, 3}},
		{[]int{1, 1, 1, 1, 1, 2}, 6, []int{1, 2, 3, 4, 5, 6}, []int{3, 5, 6, 3, 5, 6, 3}},
		{[]int{2, 1, 1, 1, 1, 1, 3}, 0, []int{0, 2, 3, 4, 5, 6, 7}, []int{5, 5, 6, 3, 5, 6, 3, 6, 6, 6}},
		{[]int{2, 1, 1, 1, 1, 1, 3}, 8, []int{2, 4, 5, 6, 7, 8, 9}, []int{6, 6, 5, 5, 6, 3, 5, 6, 3, 6}},
		{[]int{2, 1, 1, 1, 1, 1, 3}, 1, []int{1, 2, 3, 4, 5, 6, 9}, []int{6, 5, 6, 3, 5, 6, 3, 3, 3, 6}},
	} {
		check(t, from(split(polygon(len(x.parts)), x.parts...), x.from), x.corners, x.colours)
	}
}

// Contours of any numbers of edges behind each corner, from each edge on.
func TestAnyPieces(t *testing.T) {
	r := rand.New(rand.NewPCG(11, 2))
	for j := range 600 {
		parts := make([]int, 2+j%6)
		for k := range parts {
			parts[k] = 1 + r.IntN(6)
		}
		es := split(polygon(len(parts)), parts...)
		for start := range es {
			var corners []int
			place := 0
			for _, count := range parts {
				corners = append(corners, (place+len(es)-start)%len(es))
				place += count
			}
			slices.Sort(corners)
			checkKnown(t, from(es, start), corners)
		}
	}
}

// A lens and a moon: curves that meet in two corners.
func TestCurvesBetweenCorners(t *testing.T) {
	lens := along(at(12, -5), at(12, 0), at(12, 5), at(-12, 5), at(-12, 0), at(-12, -5))
	check(t, lens, []int{0, 3}, []int{5, 5, 5, 6, 6, 6})
	check(t, from(lens, 2), []int{1, 4}, []int{6, 5, 5, 5, 6, 6})
	moon := along(at(9, -9), at(12, -5), at(12, 0), at(12, 5), at(9, 9), at(-24, -5), at(-6, 0), at(-24, 5))
	check(t, moon, []int{0, 5}, []int{5, 5, 5, 5, 5, 6, 6, 6})
	check(t, from(moon, 6), []int{2, 7}, []int{6, 6, 5, 5, 5, 5, 5, 6})
}

// Any edges within the ranges, that lead on from one to the next or do not; those without length have corners on both sides.
func TestAnyEdges(t *testing.T) {
	r := rand.New(rand.NewPCG(11, 3))
	for j := range 20000 {
		most := []int{2, 30, api.EdgeFar}[j%3]
		points := make([]api.Point, r.IntN(12))
		for k := range points {
			points[k] = at(r.IntN(2*most+1)-most, r.IntN(2*most+1)-most)
			if j%4 == 0 {
				points[k].Y /= 8
			}
			if j%4 == 1 && k > 0 {
				points[k] = at(min(api.EdgeFar, points[k-1].X+r.IntN(9)), max(-api.EdgeFar, points[k-1].Y-r.IntN(5)))
			}
		}
		es := ring(points...)
		if j%5 == 0 {
			r.Shuffle(len(es), func(a, b int) { es[a], es[b] = es[b], es[a] })
		}
		var corners []int
		for k, e := range es {
			before := es[len(es)-1]
			if k > 0 {
				before = es[k-1]
			}
			if wantIs(before, e) {
				corners = append(corners, k)
			}
		}
		checkKnown(t, es, corners)
	}
}

// As many edges as a program may well have, which must not take longer than their number.
func TestManyEdges(t *testing.T) {
	const count = 1 << 20
	corners := make([]int, count)
	zigzag, straight := make([]api.Edge, count), slices.Repeat([]api.Edge{way(3, 3)}, count)
	for k := range count {
		corners[k] = k
		zigzag[k] = way(3, 3-k%2*6)
	}
	for k, colour := range Colours(zigzag) {
		want := []int{5, 6, 3}[k%3]
		if k == count-1 {
			want = 6
		}
		if colour != want {
			t.Fatalf("colour %d of %d edges is %d, want %d", k, count, colour, want)
		}
	}
	if !slices.Equal(Corners(zigzag), corners) || len(Corners(straight)) != 0 || slices.Min(Colours(straight)) != 7 {
		t.Error("a zigzag has a corner at each edge, and a straight line none")
	}
}

// Theorem T6, as far as it is about colours: two edges with a corner between have one channel in common, and each edge has two, or three without corners.
func TestChannelsInCommon(t *testing.T) {
	channels := map[int]int{1: 1, 2: 1, 4: 1, 3: 2, 5: 2, 6: 2, 7: 3}
	for m := 2; m <= 7; m++ {
		es := split(polygon(m), 1, 2, 3, 1, 2, 3, 1)
		for start := range es {
			contour := from(es, start)
			colours := Colours(contour)
			for _, colour := range colours {
				if channels[colour] != 2 {
					t.Fatalf("Colours(%v) = %v", contour, colours)
				}
			}
			for _, k := range Corners(contour) {
				if common := colours[k] & colours[(k+len(es)-1)%len(es)]; channels[common] != 1 {
					t.Fatalf("Colours(%v) = %v: %d in common at %d", contour, colours, common, k)
				}
			}
		}
	}
	if White != 7 || channels[White] != 3 {
		t.Errorf("White is %d", White)
	}
}

// P11.3: All.

// checkAll holds All against the edges and the colours that are wanted, and against W6.
func checkAll(t *testing.T, cs [][]api.Edge, edges []api.Edge, colours []int) {
	t.Helper()
	before := fmt.Sprint(cs)
	es, got := All(cs)
	if !slices.Equal(es, edges) || !slices.Equal(got, colours) {
		t.Fatalf("All(%v) = %v, %v, want %v, %v", cs, es, got, edges, colours)
	}
	if fmt.Sprint(cs) != before {
		t.Fatalf("the contours %s have become %v", before, cs)
	}
}

func TestAllOfNoContours(t *testing.T) {
	checkAll(t, nil, nil, nil)
	checkAll(t, [][]api.Edge{}, nil, nil)
	checkAll(t, [][]api.Edge{nil}, nil, nil)
	checkAll(t, [][]api.Edge{nil, {}, wheel()[:0]}, nil, nil)
}

func TestAllOfManyContours(t *testing.T) {
	triangle := ring(at(0, 0), at(9, 0), at(0, 9))
	a, b, c, d := at(2, 2), at(7, 2), at(7, 7), at(2, 7)
	// One that has no corner, if it is alone, but would have some beside the others; and the other way round.
	line, dot := []api.Edge{way(0, -5)}, []api.Edge{{A: a, B: a}}
	square := ring(a, b, c, d)
	checkAll(t, [][]api.Edge{triangle, nil, square, line}, []api.Edge{
		{A: at(0, 0), B: at(9, 0)}, {A: at(9, 0), B: at(0, 9)}, {A: at(0, 9), B: at(0, 0)},
		{A: a, B: b}, {A: b, B: c}, {A: c, B: d}, {A: d, B: a},
		{A: at(0, 0), B: at(0, -5)},
	}, []int{5, 6, 3, 5, 6, 3, 6, 7})
	checkAll(t, [][]api.Edge{{}, line, dot, square, {}, triangle, nil}, []api.Edge{
		{A: at(0, 0), B: at(0, -5)},
		{A: a, B: a},
		{A: a, B: b}, {A: b, B: c}, {A: c, B: d}, {A: d, B: a},
		{A: at(0, 0), B: at(9, 0)}, {A: at(9, 0), B: at(0, 9)}, {A: at(0, 9), B: at(0, 0)},
	}, []int{7, 5, 5, 6, 3, 6, 5, 6, 3})
	checkAll(t, [][]api.Edge{drop(), from(drop(), 12)}, slices.Concat(drop(), from(drop(), 12)), []int{
		5, 5, 5, 5, 5, 5, 5, 6, 6, 6, 6, 6, 6,
		6, 5, 5, 5, 5, 5, 5, 5, 6, 6, 6, 6, 6,
	})
	checkAll(t, [][]api.Edge{triangle, triangle, triangle}, slices.Concat(triangle, triangle, triangle), []int{5, 6, 3, 5, 6, 3, 5, 6, 3})
}

func TestAllOfAnyContours(t *testing.T) {
	r := rand.New(rand.NewPCG(11, 4))
	for range 3000 {
		cs := make([][]api.Edge, r.IntN(9))
		var edges []api.Edge
		var colours []int
		for k := range cs {
			switch m := r.IntN(10); m {
			case 0, 9: // without edges
			case 1:
				cs[k] = from(drop(), r.IntN(13))
			case 8:
				cs[k] = from(wheel(), r.IntN(16))
			default:
				es := split(polygon(m), 1+r.IntN(3), 1+r.IntN(3))
				cs[k] = from(es, r.IntN(len(es)))
			}
			edges = append(edges, cs[k]...)
			colours = append(colours, Colours(cs[k])...)
		}
		checkAll(t, cs, edges, colours)
	}
}

// What a call has returned is its own (W6): to change it changes neither its arguments nor what a later call returns.
func TestNewMemory(t *testing.T) {
	for _, contour := range [][]api.Edge{wheel(), drop(), polygon(2), polygon(7), {way(1, 0)}} {
		// There is room behind the edges, where nothing may be written.
		room := append(slices.Clone(contour), polygon(5)...)
		es := room[:len(contour)]
		before := slices.Clone(room)
		corners, colours := Corners(es), Colours(es)
		for _, cs := range [][][]api.Edge{{es}, {es, nil}, {es, es}, {nil, es}} {
			edges, all := All(cs)
			clear(edges)
			clear(all)
			_ = append(edges, way(7, 7))
		}
		clear(Corners(es))
		clear(Colours(es))
		if !slices.Equal(room, before) {
			t.Errorf("the edges %v have become %v", before, room)
		}
		check(t, es, corners, colours)
	}
}

// Any edges, also beyond the ranges: each call ends without a panic (W1), answers the same each time (W2), and leaves the edges alone (W6).
func TestBeyondTheRanges(t *testing.T) {
	r := rand.New(rand.NewPCG(11, 5))
	for range 50000 {
		es := make([]api.Edge, r.IntN(7))
		for k := range es {
			es[k] = api.Edge{A: at(wild(r), wild(r)), B: at(wild(r), wild(r))}
		}
		before := slices.Clone(es)
		for _, a := range es {
			for _, b := range es {
				if Is(a, b) != Is(a, b) {
					t.Fatalf("Is(%v, %v) differs", a, b)
				}
			}
		}
		corners, colours := Corners(es), Colours(es)
		if !slices.Equal(corners, Corners(es)) || !slices.Equal(colours, Colours(es)) {
			t.Fatalf("Corners or Colours of %v differ", es)
		}
		all, cs := All([][]api.Edge{es, nil, es})
		if !slices.Equal(all, slices.Concat(es, es)) || !slices.Equal(cs, slices.Concat(colours, colours)) {
			t.Fatalf("All of %v twice = %v, %v", es, all, cs)
		}
		if !slices.Equal(es, before) {
			t.Fatalf("the edges %v have become %v", before, es)
		}
	}
}

// Numbers at which a difference, a product, a sum or twice the Cross wraps around.
func TestWrapRound(t *testing.T) {
	numbers := []int{math.MinInt, math.MinInt + 1, -1 << 62, -1 << 32, -1 << 31, -1, 0, 1, 1 << 31, 1<<31 + 1, 3037000500, 1 << 32, 1 << 62, math.MaxInt - 1, math.MaxInt}
	for _, ax := range numbers {
		for _, ay := range numbers {
			for _, bx := range numbers {
				for _, by := range numbers {
					a, b := way(ax, ay), api.Edge{A: at(ay, ax), B: at(bx, by)}
					Is(a, b)
					es := []api.Edge{a, b, way(bx, by)}
					if len(Colours(es)) != 3 {
						t.Fatalf("Colours(%v) are not three", es)
					}
				}
			}
		}
	}
}
