package dist

import (
	"math"
	"math/big"
	"math/rand/v2"
	"slices"
	"testing"

	"punchcut/api"
)

func at(x, y int) api.Point { return api.Point{X: x, Y: y} }

func edge(ax, ay, bx, by int) api.Edge { return api.Edge{A: at(ax, ay), B: at(bx, by)} }

func frac(num, den int) api.Frac { return api.Frac{Num: num, Den: den} }

func one(e api.Edge) []api.Edge { return []api.Edge{e} }

// ring is the edges from each point to the next one, and from the last one to the first.
func ring(points ...api.Point) []api.Edge {
	var es []api.Edge
	for k, a := range points {
		es = append(es, api.Edge{A: a, B: points[(k+1)%len(points)]})
	}
	return es
}

// square is a counterclockwise ring.
func square(least, greatest int) []api.Edge {
	return ring(at(least, least), at(greatest, least), at(greatest, greatest), at(least, greatest))
}

// back is the edges the other way round.
func back(es []api.Edge) []api.Edge {
	turned := make([]api.Edge, len(es))
	for k, e := range es {
		turned[len(es)-1-k] = api.Edge{A: e.B, B: e.A}
	}
	return turned
}

// star is a ring of five points that winds around its middle, near 0, 0, twice.
func star() []api.Edge {
	return ring(at(0, 100), at(-59, -81), at(95, 31), at(-95, 31), at(59, -81))
}

// Coordinates of edges and of other points, up to the last ones for which something is promised.
var (
	edgeCoords  = []int{-api.EdgeFar, -api.EdgeFar + 1, -1, 0, 3, api.EdgeFar}
	pointCoords = []int{-api.Far, -api.Far + 1, -api.EdgeFar, 0, 1, api.EdgeFar - 1, api.EdgeFar, api.Far}
)

// beyond are numbers outside of them.
var beyond = []int{
	math.MinInt, math.MinInt + 1, -1 << 62, -1 << 32, -1 << 31, -api.Far - 1, -1, 0, 1,
	api.EdgeFar + 1, api.Far + 1, 1 << 31, 3037000500, 1 << 32, 1 << 62, math.MaxInt - 1, math.MaxInt,
}

func points(coords []int) []api.Point {
	var all []api.Point
	for _, y := range coords {
		for _, x := range coords {
			all = append(all, at(x, y))
		}
	}
	return all
}

// span is the numbers from -n to n.
func span(n int) []int {
	var all []int
	for k := -n; k <= n; k++ {
		all = append(all, k)
	}
	return all
}

func rat(n int) *big.Rat { return big.NewRat(int64(n), 1) }

func sum(a, b *big.Rat) *big.Rat { return new(big.Rat).Add(a, b) }

func product(a, b *big.Rat) *big.Rat { return new(big.Rat).Mul(a, b) }

// nearestPart is which part of an edge, from 0 at A to 1 at B, is nearest to a point.
func nearestPart(e api.Edge, p api.Point) *big.Rat {
	x, y := e.B.X-e.A.X, e.B.Y-e.A.Y
	if x == 0 && y == 0 {
		return rat(0)
	}
	part := big.NewRat(int64(x*(p.X-e.A.X)+y*(p.Y-e.A.Y)), int64(x*x+y*y))
	if part.Sign() < 0 {
		return rat(0)
	}
	if part.Cmp(rat(1)) > 0 {
		return rat(1)
	}
	return part
}

// wantSquare is the square of the distance of two points: one, and that of an edge that is nearest to it.
func wantSquare(e api.Edge, p api.Point) *big.Rat {
	part := nearestPart(e, p)
	x := sum(rat(e.A.X-p.X), product(part, rat(e.B.X-e.A.X)))
	y := sum(rat(e.A.Y-p.Y), product(part, rat(e.B.Y-e.A.Y)))
	return sum(product(x, x), product(y, y))
}

// wantNear is P8.1 of the edges that are taken: the square, nil if there is none, and the index.
func wantNear(es []api.Edge, p api.Point, taken func(k int) bool) (*big.Rat, int) {
	var least *big.Rat
	first := -1
	// From the last one on, so that of equal ones the first stays.
	for k := len(es) - 1; k >= 0; k-- {
		if !taken(k) {
			continue
		}
		if s := wantSquare(es[k], p); least == nil || s.Cmp(least) <= 0 {
			least, first = s, k
		}
	}
	return least, first
}

// asFrac is a fraction in its least form; the zero Frac, if there is none.
func asFrac(r *big.Rat) api.Frac {
	if r == nil {
		return api.Frac{}
	}
	return frac(int(r.Num().Int64()), int(r.Denom().Int64()))
}

// isEight tells whether a number is eight times the root of a square, rounded down, without taking a root.
func isEight(eight int, square *big.Rat) bool {
	if square == nil {
		return eight == -1
	}
	whole := product(rat(64), square)
	return eight >= 0 && product(rat(eight), rat(eight)).Cmp(whole) <= 0 && product(rat(eight+1), rat(eight+1)).Cmp(whole) > 0
}

// crossings is how many edges go up through the height of a point at an X greater than the point's, less those that go down.
func crossings(es []api.Edge, p api.Point) int {
	right := 0
	for _, e := range es {
		if min(e.A.Y, e.B.Y) > p.Y || max(e.A.Y, e.B.Y) <= p.Y {
			continue
		}
		x := sum(rat(e.A.X), product(big.NewRat(int64(p.Y-e.A.Y), int64(e.B.Y-e.A.Y)), rat(e.B.X-e.A.X)))
		if x.Cmp(rat(p.X)) <= 0 {
			continue
		}
		if e.B.Y > e.A.Y {
			right++
		} else {
			right--
		}
	}
	return right
}

// wantSign is P8.2 by the crossings, of a point with a square from the edges that may be 0.
func wantSign(es []api.Edge, p api.Point, square *big.Rat) int {
	switch {
	case square != nil && square.Sign() == 0:
		return 0
	case crossings(es, p) != 0:
		return 1
	}
	return -1
}

// all takes every edge.
func all(int) bool { return true }

// check holds Near, Eight and Sign, and Some with all edges, against what is found by another way, and against what W6 says of their argument.
func check(t *testing.T, es []api.Edge, p api.Point) {
	t.Helper()
	before := slices.Clone(es)
	square, first := wantNear(es, p, all)
	want := asFrac(square)
	if f, k := Near(es, p); f != want || k != first {
		t.Fatalf("Near(%v, %v) = %v, %d, want %v, %d", es, p, f, k, want, first)
	}
	if got := Eight(es, p); !isEight(got, square) {
		t.Fatalf("Eight(%v, %v) = %d, and the square is %v", es, p, got, square)
	}
	if got, want := Sign(es, p), wantSign(es, p, square); got != want {
		t.Fatalf("Sign(%v, %v) = %d, want %d", es, p, got, want)
	}
	checkSome(t, es, p, all)
	if !slices.Equal(es, before) {
		t.Fatalf("the edges %v have become %v", before, es)
	}
}

// checkSome holds Some against what is found by another way, and the calls of its function against P8.1.
func checkSome(t *testing.T, es []api.Edge, p api.Point, taken func(k int) bool) {
	t.Helper()
	var calls []int
	f, k := Some(es, p, func(k int) bool {
		calls = append(calls, k)
		return taken(k)
	})
	square, first := wantNear(es, p, taken)
	if want := asFrac(square); f != want || k != first {
		t.Fatalf("Some(%v, %v) = %v, %d, want %v, %d", es, p, f, k, want, first)
	}
	if len(calls) != len(es) {
		t.Fatalf("Some(%v, %v) has called its function for %v", es, p, calls)
	}
	for j, call := range calls {
		if call != j {
			t.Fatalf("Some(%v, %v) has called its function for %v", es, p, calls)
		}
	}
}

// checkNear is check, with the answer of Near, and its eighths, written out.
func checkNear(t *testing.T, es []api.Edge, p api.Point, square api.Frac, first, eight int) {
	t.Helper()
	if f, k := Near(es, p); f != square || k != first {
		t.Errorf("Near(%v, %v) = %v, %d, want %v, %d", es, p, f, k, square, first)
	}
	if got := Eight(es, p); got != eight {
		t.Errorf("Eight(%v, %v) = %d, want %d", es, p, got, eight)
	}
	check(t, es, p)
}

// P8.1 and P8.2: Near and Eight.

func TestNoEdges(t *testing.T) {
	for _, es := range [][]api.Edge{nil, {}, make([]api.Edge, 0, 4)} {
		for _, p := range points(pointCoords) {
			checkNear(t, es, p, api.Frac{}, -1, -1)
			if got := Sign(es, p); got != -1 {
				t.Errorf("Sign without edges = %d, want -1", got)
			}
		}
	}
}

// The chapter's example: an offset of 3, 4 from either end of the nearest edge.
func TestExample(t *testing.T) {
	es := []api.Edge{edge(500, 500, 600, 600), edge(100, 200, 100, 150)}
	checkNear(t, es, at(103, 204), frac(25, 1), 1, 40)
	checkNear(t, es, at(97, 204), frac(25, 1), 1, 40)
	checkNear(t, es, at(103, 146), frac(25, 1), 1, 40)
	checkNear(t, es, at(97, 146), frac(25, 1), 1, 40)
	checkNear(t, one(edge(0, 0, -7, 0)), at(4, 3), frac(25, 1), 0, 40)
}

func TestOneEdge(t *testing.T) {
	level, slanted := edge(0, 0, 10, 0), edge(1, 1, 7, 4)
	for _, x := range []struct {
		e      api.Edge
		p      api.Point
		square api.Frac
		eight  int
	}{
		// The nearest point is between the ends, at either side of the edge.
		{level, at(3, 4), frac(16, 1), 32},
		{level, at(3, -4), frac(16, 1), 32},
		{edge(10, 0, 0, 0), at(3, 4), frac(16, 1), 32},
		{edge(2, -5, 2, 5), at(-7, 1), frac(81, 1), 72},
		{slanted, at(4, 3), frac(1, 5), 3},
		{slanted, at(4, 2), frac(1, 5), 3},
		{edge(0, 0, 1, 1), at(1, 0), frac(1, 2), 5},
		{edge(0, 0, 3, 1), at(1, 1), frac(2, 5), 5},
		// It is A, and it is B.
		{level, at(-5, 12), frac(169, 1), 104},
		{level, at(0, 12), frac(144, 1), 96},
		{level, at(15, -12), frac(169, 1), 104},
		{level, at(10, -12), frac(144, 1), 96},
		{slanted, at(0, 0), frac(2, 1), 11},
		{slanted, at(8, 5), frac(2, 1), 11},
		// On the edge, and on its ends.
		{level, at(4, 0), frac(0, 1), 0},
		{slanted, at(3, 2), frac(0, 1), 0},
		{slanted, at(1, 1), frac(0, 1), 0},
		{slanted, at(7, 4), frac(0, 1), 0},
		// On its line, beyond its ends.
		{level, at(-1, 0), frac(1, 1), 8},
		{level, at(13, 0), frac(9, 1), 24},
		{slanted, at(-1, 0), frac(5, 1), 17},
		{slanted, at(9, 5), frac(5, 1), 17},
		// An edge without length is its A.
		{edge(2, 3, 2, 3), at(2, 3), frac(0, 1), 0},
		{edge(2, 3, 2, 3), at(5, 7), frac(25, 1), 40},
		{edge(2, 3, 2, 3), at(1, 2), frac(2, 1), 11},
	} {
		checkNear(t, one(x.e), x.p, x.square, 0, x.eight)
	}
}

// The nearest edge may be at each place among the others.
func TestPlaceOfTheNearest(t *testing.T) {
	for n := 1; n <= 6; n++ {
		for k := range n {
			es := make([]api.Edge, n)
			for j := range es {
				es[j] = edge(-50, 20+j, 50, 20+j)
			}
			es[k] = edge(5, 7, 5, 30)
			checkNear(t, es, at(2, 3), frac(25, 1), k, 40)
		}
	}
}

// Nearer and nearer edges, and ones that are farther and farther.
func TestRisingAndFallingSquares(t *testing.T) {
	var falling []api.Edge
	for y := 9; y >= 3; y-- {
		falling = append(falling, edge(-50, y, 50, y))
	}
	checkNear(t, falling, at(0, 0), frac(9, 1), len(falling)-1, 24)
	checkNear(t, back(falling), at(0, 0), frac(9, 1), 0, 24)
}

func TestEquallyNear(t *testing.T) {
	far := edge(90, 90, 90, 95)
	left, right, below, above := edge(-5, -9, -5, 9), edge(5, 9, 5, -9), edge(-9, -5, 9, -5), edge(9, 5, -9, 5)
	slanted := edge(0, 0, 2, 1)
	for _, x := range []struct {
		es     []api.Edge
		p      api.Point
		square api.Frac
		first  int
		eight  int
	}{
		{[]api.Edge{left, right, below, above}, at(0, 0), frac(25, 1), 0, 40},
		{[]api.Edge{above, below, right, left}, at(0, 0), frac(25, 1), 0, 40},
		{[]api.Edge{far, left, far, above, below}, at(0, 0), frac(25, 1), 1, 40},
		{[]api.Edge{far, far, far, above, right}, at(0, 0), frac(25, 1), 3, 40},
		{[]api.Edge{far, far, far, far, right}, at(0, 0), frac(25, 1), 4, 40},
		// An edge that is given again, and turned round.
		{[]api.Edge{far, left, left, left}, at(-2, 1), frac(9, 1), 1, 24},
		{[]api.Edge{far, edge(-5, 9, -5, -9), left}, at(-2, 1), frac(9, 1), 1, 24},
		// By a fraction: on both sides of the point, and on one line.
		{[]api.Edge{far, slanted, edge(0, 1, 2, 2)}, at(1, 1), frac(1, 5), 1, 3},
		{[]api.Edge{far, edge(0, 1, 2, 2), slanted}, at(1, 1), frac(1, 5), 1, 3},
		{[]api.Edge{far, edge(-4, -1, 4, 3), slanted}, at(1, 1), frac(1, 5), 1, 3},
		{[]api.Edge{far, slanted, edge(-4, -1, 4, 3)}, at(1, 1), frac(1, 5), 1, 3},
		// From a corner of two edges, and from an end and a foot.
		{ring(at(0, 0), at(9, 0), at(0, 9)), at(-3, -4), frac(25, 1), 0, 40},
		{ring(at(0, 0), at(9, 0), at(0, 9)), at(15, -8), frac(100, 1), 0, 80},
		{[]api.Edge{far, edge(5, -9, 5, 9), edge(3, 4, 3, 9)}, at(0, 0), frac(25, 1), 1, 40},
		{[]api.Edge{far, edge(3, 4, 3, 9), edge(5, -9, 5, 9)}, at(0, 0), frac(25, 1), 1, 40},
		// On several edges.
		{[]api.Edge{far, left, below, edge(-5, -5, -5, -5)}, at(-5, -5), frac(0, 1), 1, 0},
	} {
		checkNear(t, x.es, x.p, x.square, x.first, x.eight)
	}
}

// Squares that differ by so little that they are equal as floats, or even the other way round: in each row the first edge is the nearer one.
func TestNearlyEquallyNear(t *testing.T) {
	for _, x := range []struct {
		nearer, other api.Edge
		p             api.Point
	}{
		{edge(-8192, -8192, 7415, 5282), edge(-402, -611, -195, 6870), at(-16710, 6241)},
		{edge(-2481, -1993, 1064, 2864), edge(-8192, -8192, 1766, 3533), at(-9891, 9730)},
		{edge(-8192, -8192, 1766, 3533), edge(-1601, -408, 1944, 4449), at(-14744, 9684)},
		{edge(-8192, -8192, 6669, -2870), edge(-4384, -6308, 985, -4882), at(-2486, 7155)},
		{edge(-8192, -8192, 5267, 1836), edge(-3843, -8192, -506, 1060), at(-12297, 3697)},
		{edge(-5636, -5446, -1001, 5905), edge(-8192, -8192, -2840, 711), at(-23670, 9245)},
	} {
		for k, es := range [][]api.Edge{{x.nearer, x.other}, {x.other, x.nearer}, {x.other, x.other, x.nearer, x.nearer}} {
			if _, got := Near(es, x.p); got != k {
				t.Errorf("Near(%v, %v) has the edge %d, want %d", es, x.p, got, k)
			}
			check(t, es, x.p)
		}
	}
}

// P8.2: Eight.

func TestWholeEighths(t *testing.T) {
	for _, x := range []struct {
		e     api.Edge
		p     api.Point
		eight int
	}{
		{edge(0, 0, 10, 0), at(5, 1), 8},
		{edge(0, 0, 10, 0), at(5, 100), 800},
		{edge(0, 0, 10, 0), at(22, 5), 104},
		// From between the ends of an edge of 5 and of one of 50, at a distance of 1 and of 10.
		{edge(0, 0, 4, 3), at(1, 2), 8},
		{edge(0, 0, 4, 3), at(3, 1), 8},
		{edge(0, 0, 40, 30), at(10, 20), 80},
	} {
		checkNear(t, one(x.e), x.p, frac(x.eight*x.eight/64, 1), 0, x.eight)
	}
}

func TestEightIsRoundedDown(t *testing.T) {
	for _, x := range []struct {
		e     api.Edge
		p     api.Point
		eight int
	}{
		{edge(0, 0, 9, 0), at(-1, 1), 11},
		{edge(0, 0, 9, 0), at(-3, 8), 68},
		{edge(0, 0, 9, 9), at(4, 5), 5},
		{edge(0, 0, 4, 3), at(1, 1), 1},
		{edge(0, 0, 4, 3), at(2, 2), 3},
		{edge(0, 0, 8, 1), at(4, 1), 3},
		{edge(-api.EdgeFar, 0, api.EdgeFar, 1), at(0, 0), 3},
		{edge(-api.EdgeFar, 0, api.EdgeFar, 1), at(-8000, 0), 0},
		// Just below the next whole number: 8 times the roots of 17 and 260.
		{edge(0, 0, 9, 0), at(-1, 4), 32},
		{edge(0, 0, 9, 0), at(-2, 16), 128},
		// So near below it that floats round up to it.
		{edge(-8192, -8192, 6230, 4309), at(-26201, 27154), 308035},
		{edge(-8192, -8192, 3305, 940), at(-20041, 26064), 273548},
		{edge(-8192, -8192, 6435, -5658), at(570, 9955), 131079},
		{edge(-8192, -8192, 7900, 2817), at(-25046, 27951), 314772},
		{edge(-8192, -8192, 5883, 6515), at(-15477, 8388), 133813},
		{edge(-8192, -8192, 283, -3088), at(-29770, 32395), 367206},
		// As far away as may be: 8 times 40960, and times the root of 2.
		{edge(-api.EdgeFar, 0, -api.EdgeFar, 0), at(api.Far, 0), 327680},
		{edge(-api.EdgeFar, -api.EdgeFar, -api.EdgeFar, -api.EdgeFar), at(api.Far, api.Far), 463409},
	} {
		es := one(x.e)
		if got := Eight(es, x.p); got != x.eight {
			t.Errorf("Eight(%v, %v) = %d, want %d", es, x.p, got, x.eight)
		}
		check(t, es, x.p)
	}
}

// P8.2: Sign.

// checkSign is check, with the answer of Sign written out.
func checkSign(t *testing.T, es []api.Edge, p api.Point, want int) {
	t.Helper()
	if got := Sign(es, p); got != want {
		t.Errorf("Sign(%v, %v) = %d, want %d", es, p, got, want)
	}
	check(t, es, p)
}

func TestSignOfSquares(t *testing.T) {
	for _, p := range points(span(12)) {
		want := 0
		switch out := max(p.X, -p.X, p.Y, -p.Y); {
		case out < 10:
			want = 1
		case out > 10:
			want = -1
		}
		es := square(-10, 10)
		// Either way round, and twice, Number has another value, and Sign the same.
		checkSign(t, es, p, want)
		checkSign(t, back(es), p, want)
		checkSign(t, slices.Concat(es, es), p, want)
		checkSign(t, slices.Concat(back(es), back(es)), p, want)
	}
}

func TestSignOfSeveralRings(t *testing.T) {
	outer, inner := square(0, 10), square(2, 6)
	hole := slices.Concat(outer, back(inner))
	step := ring(at(0, 0), at(20, 0), at(20, 20), at(10, 20), at(10, 10), at(0, 10))
	for _, x := range []struct {
		es   []api.Edge
		p    api.Point
		want int
	}{
		{slices.Concat(outer, inner), at(3, 3), 1},
		{slices.Concat(outer, inner), at(2, 3), 0},
		{slices.Concat(outer, inner), at(11, 3), -1},
		{star(), at(0, 0), 1},
		{star(), at(0, 80), 1},
		{star(), at(0, -60), -1},
		{star(), at(0, 31), 0},
		{back(star()), at(0, 0), 1},
		{back(star()), at(0, -60), -1},
		// A hole, and a ring that another one takes away.
		{hole, at(3, 3), -1},
		{hole, at(8, 8), 1},
		{hole, at(6, 4), 0},
		{hole, at(2, 4), 0},
		{hole, at(2, 2), 0},
		{slices.Concat(outer, back(outer)), at(5, 5), -1},
		{slices.Concat(outer, back(outer)), at(5, 10), 0},
		// On the line of an edge, beyond its ends: inside and outside.
		{step, at(10, 5), 1},
		{step, at(15, 10), 1},
		{step, at(10, 25), -1},
		{step, at(-5, 10), -1},
		{step, at(25, 0), -1},
		{step, at(5, 10), 0},
		{step, at(10, 15), 0},
		{step, at(10, 10), 0},
		// On a corner, and next to one.
		{outer, at(0, 0), 0},
		{outer, at(10, 10), 0},
		{outer, at(9, 9), 1},
		{outer, at(1, 1), 1},
		{outer, at(11, 10), -1},
		{outer, at(-1, 0), -1},
		// Edges that are no ring: On the first one, on one between, and on the last one; on their left and on their right.
		{[]api.Edge{edge(0, 0, 4, 4), edge(9, 0, 9, 4), edge(0, 9, 4, 9)}, at(2, 2), 0},
		{[]api.Edge{edge(0, 0, 4, 4), edge(9, 0, 9, 4), edge(0, 9, 4, 9)}, at(9, 1), 0},
		{[]api.Edge{edge(0, 0, 4, 4), edge(9, 0, 9, 4), edge(0, 9, 4, 9)}, at(3, 9), 0},
		{[]api.Edge{edge(0, 0, 4, 4), edge(9, 0, 9, 4), edge(0, 9, 4, 9)}, at(8, 1), 1},
		{[]api.Edge{edge(0, 0, 4, 4), edge(9, 0, 9, 4), edge(0, 9, 4, 9)}, at(12, 1), -1},
		{one(edge(5, 9, 5, 0)), at(1, 3), 1},
		{one(edge(5, 9, 5, 0)), at(8, 3), -1},
		{one(edge(2, 5, 6, 5)), at(1, 5), -1},
		{one(edge(2, 5, 2, 5)), at(2, 5), 0},
	} {
		checkSign(t, x.es, x.p, x.want)
	}
}

func TestGreatestSquare(t *testing.T) {
	const far = api.EdgeFar
	es := square(-far, far)
	for _, p := range points(pointCoords) {
		check(t, es, p)
		check(t, back(es), p)
	}
	checkSign(t, es, at(far-1, far-1), 1)
	checkSign(t, es, at(far, far-1), 0)
	checkSign(t, es, at(far+1, far-1), -1)
	checkNear(t, es, at(0, 0), frac(far*far, 1), 0, 8*far)
	checkNear(t, es, at(api.Far, 0), frac(9*far*far, 1), 1, 24*far)
}

// P8.1: Some.

// Each choice among up to six edges, of which several are equally near.
func TestSomeOfTheEdges(t *testing.T) {
	es := []api.Edge{edge(9, -9, 9, 9), edge(-5, -9, -5, 9), edge(-9, 5, 9, 5), edge(0, 2, 3, 3), edge(0, -2, 3, -3), edge(-9, -5, 9, -5)}
	for n := range len(es) + 1 {
		for choice := range 1 << n {
			taken := func(k int) bool { return choice>>k&1 == 1 }
			for _, p := range []api.Point{at(0, 0), at(-5, 5), at(1, 2), at(30, -7)} {
				checkSome(t, es[:n], p, taken)
			}
		}
	}
}

func TestSomeExamples(t *testing.T) {
	es := []api.Edge{edge(10, 0, 10, 9), edge(-10, 0, -10, 9), edge(3, -4, 9, -4), edge(-3, -4, -9, -4)}
	for _, x := range []struct {
		taken  []int
		square api.Frac
		first  int
	}{
		{[]int{0, 1, 2, 3}, frac(25, 1), 2},
		{[]int{0, 1, 3}, frac(25, 1), 3},
		{[]int{2, 3}, frac(25, 1), 2},
		{[]int{0, 1}, frac(100, 1), 0},
		{[]int{0}, frac(100, 1), 0},
		{[]int{1}, frac(100, 1), 1},
		{[]int{3}, frac(25, 1), 3},
		{nil, api.Frac{}, -1},
		// An index that no edge has is never asked for.
		{[]int{-1, 4, 5}, api.Frac{}, -1},
	} {
		taken := func(k int) bool { return slices.Contains(x.taken, k) }
		if f, k := Some(es, at(0, 0), taken); f != x.square || k != x.first {
			t.Errorf("Some of %v = %v, %d, want %v, %d", x.taken, f, k, x.square, x.first)
		}
		checkSome(t, es, at(0, 0), taken)
	}
}

func TestSomeWithoutEdges(t *testing.T) {
	for _, es := range [][]api.Edge{nil, {}} {
		for _, answer := range []bool{false, true} {
			checkSome(t, es, at(3, 4), func(int) bool { return answer })
		}
	}
}

// The function is asked on, though a nearer edge than one that has the point on it cannot come.
func TestSomeAsksForAll(t *testing.T) {
	es := []api.Edge{edge(0, 0, 5, 0), edge(0, 0, 0, 5), edge(7, 7, 8, 8)}
	checkSome(t, es, at(0, 0), all)
	checkSome(t, es, at(0, 0), func(k int) bool { return k == 0 })
}

// All of them, of more edges than one.

func TestAllSmallEdges(t *testing.T) {
	ends, around := points(span(2)), points(span(3))
	for _, a := range ends {
		for _, b := range ends {
			for _, p := range around {
				check(t, one(api.Edge{A: a, B: b}), p)
			}
		}
	}
}

func TestEdgesAtTheBounds(t *testing.T) {
	ends, around := points(edgeCoords), points(pointCoords)
	for _, a := range ends {
		for _, b := range ends {
			for _, p := range around {
				check(t, one(api.Edge{A: a, B: b}), p)
			}
		}
	}
}

// randomEdges is a ring or loose edges, between points with such coordinates.
func randomEdges(r *rand.Rand, coord func() int) []api.Edge {
	if r.IntN(2) == 0 {
		corners := make([]api.Point, r.IntN(9))
		for k := range corners {
			corners[k] = at(coord(), coord())
		}
		return ring(corners...)
	}
	es := make([]api.Edge, r.IntN(9))
	for k := range es {
		es[k] = edge(coord(), coord(), coord(), coord())
	}
	return es
}

func TestRandomEdges(t *testing.T) {
	r := rand.New(rand.NewPCG(8, 1))
	within := func(most int) func() int {
		return func() int { return r.IntN(2*most+1) - most }
	}
	among := func(coords []int) func() int {
		return func() int { return coords[r.IntN(len(coords))] }
	}
	for _, x := range []struct{ ends, points func() int }{
		{within(3), within(4)},
		{within(20), within(30)},
		{within(api.EdgeFar), within(api.EdgeFar)},
		{within(api.EdgeFar), within(api.Far)},
		{among(edgeCoords), among(pointCoords)},
	} {
		for range 3000 {
			es, p := randomEdges(r, x.ends), at(x.points(), x.points())
			check(t, es, p)
			choice := r.Uint64()
			checkSome(t, es, p, func(k int) bool { return choice>>k&1 == 1 })
		}
	}
}

func TestManyEdges(t *testing.T) {
	const n = 20000
	es := make([]api.Edge, n)
	for k := range es {
		es[k] = edge(k%5000, 40+k%7, k%5000+9, 47)
	}
	es[n-1] = edge(-5, -9, -5, 9)
	checkNear(t, es, at(0, 0), frac(25, 1), n-1, 40)
	checkSome(t, es, at(0, 0), func(k int) bool { return k != n-1 })
}

// Beyond the bounds nothing is promised, but that all four answer (W1), the same each time (W2), and leave the edges alone (W6).
func TestBeyondTheBounds(t *testing.T) {
	r := rand.New(rand.NewPCG(8, 2))
	type answer struct {
		near, some         api.Frac
		first, firstOfSome int
		eight, sign        int
	}
	ask := func(es []api.Edge, p api.Point) answer {
		var a answer
		a.near, a.first = Near(es, p)
		a.some, a.firstOfSome = Some(es, p, func(k int) bool { return k%2 == 1 })
		a.eight, a.sign = Eight(es, p), Sign(es, p)
		return a
	}
	for k := range 20000 {
		coord := func() int { return beyond[r.IntN(len(beyond))] }
		if k%2 == 0 {
			coord = func() int { return int(r.Uint64()) }
		}
		es := randomEdges(r, coord)
		before, p := slices.Clone(es), at(coord(), coord())
		if first, second := ask(es, p), ask(es, p); first != second {
			t.Fatalf("%v at %v: %v, and then %v", es, p, first, second)
		}
		if !slices.Equal(es, before) {
			t.Fatalf("the edges %v have become %v", before, es)
		}
	}
}
