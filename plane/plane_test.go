package plane

import (
	"math"
	"math/big"
	"testing"

	"punchcut/api"
)

// Coordinates of edges and of other points, up to the last ones for which something is promised.
var (
	edgeCoords  = []int{-api.EdgeFar, -api.EdgeFar + 1, -1, 0, 3, api.EdgeFar}
	pointCoords = []int{-api.Far, -api.Far + 1, -api.EdgeFar, 0, 1, api.EdgeFar - 1, api.Far - 1, api.Far}
	components  = []int{-1 << 16, -1<<16 + 1, -255, -1, 0, 1, 2, 1<<16 - 1, 1 << 16}
)

// Numbers beyond those, at which a difference, a product, a square or a sum wraps around first.
var beyond = []int{
	math.MinInt, math.MinInt + 1, -1 << 62, -1<<32 - 1, -1 << 32, -1 << 31, -api.Far - 1, -1, 0, 1,
	api.EdgeFar + 1, api.Far + 1, 1<<16 + 1, 1 << 31, 3037000500, 1 << 32, 1 << 62, math.MaxInt - 1, math.MaxInt,
}

func at(x, y int) api.Point { return api.Point{X: x, Y: y} }

func edge(ax, ay, bx, by int) api.Edge { return api.Edge{A: at(ax, ay), B: at(bx, by)} }

func frac(num, den int) api.Frac { return api.Frac{Num: num, Den: den} }

func points(coords []int) []api.Point {
	var all []api.Point
	for _, y := range coords {
		for _, x := range coords {
			all = append(all, at(x, y))
		}
	}
	return all
}

func edges(coords []int) []api.Edge {
	var all []api.Edge
	ends := points(coords)
	for _, a := range ends {
		for _, b := range ends {
			all = append(all, api.Edge{A: a, B: b})
		}
	}
	return all
}

func bigInt(n int) *big.Int { return big.NewInt(int64(n)) }

func bigSub(a, b int) *big.Int { return new(big.Int).Sub(bigInt(a), bigInt(b)) }

func bigMul(a, b *big.Int) *big.Int { return new(big.Int).Mul(a, b) }

// P3.1: Sub.

func TestSub(t *testing.T) {
	for _, x := range []struct{ a, b, want api.Point }{
		{at(0, 0), at(0, 0), at(0, 0)},
		{at(5, 7), at(2, 11), at(3, -4)},
		{at(2, 11), at(5, 7), at(-3, 4)},
		{at(-1, -2), at(-3, 4), at(2, -6)},
		{at(1<<15, -1<<15), at(-1<<13, 1<<13), at(1<<15+1<<13, -1<<15-1<<13)},
		{at(1<<15, -1<<15), at(-1<<15, 1<<15), at(1<<16, -1<<16)},
		{at(math.MaxInt, math.MinInt), at(0, 0), at(math.MaxInt, math.MinInt)},
		{at(math.MinInt, math.MaxInt), at(math.MinInt, math.MaxInt), at(0, 0)},
		{at(0, -1), at(math.MaxInt, math.MaxInt), at(math.MinInt+1, math.MinInt)},
		// Of Sub alone something is promised for every point: a difference that goes over wraps around.
		{at(0, 0), at(math.MinInt, 1), at(math.MinInt, -1)},
		{at(math.MaxInt, math.MinInt), at(-1, 1), at(math.MinInt, math.MaxInt)},
		{at(math.MaxInt, math.MinInt), at(math.MinInt, math.MaxInt), at(-1, 1)},
	} {
		if got := Sub(x.a, x.b); got != x.want {
			t.Errorf("Sub(%v, %v) = %v, want %v", x.a, x.b, got, x.want)
		}
	}
}

// P3.1: Cross and Dot.

func TestCrossAndDotExamples(t *testing.T) {
	const most = 1 << 16
	for _, x := range []struct {
		a, b       api.Point
		cross, dot int
	}{
		{at(0, 0), at(0, 0), 0, 0},
		{at(1, 0), at(0, 1), 1, 0},
		{at(0, 1), at(1, 0), -1, 0},
		{at(1, 2), at(3, 4), -2, 11},
		{at(3, 4), at(1, 2), 2, 11},
		{at(3, 4), at(3, 4), 0, 25},
		{at(3, 4), at(-6, -8), 0, -50},
		{at(2, -5), at(7, 3), 41, -1},
		{at(most, most), at(-most, most), 1 << 33, 0},
		{at(most, most), at(most, -most), -1 << 33, 0},
		{at(most, most), at(most, most), 0, 1 << 33},
		{at(most, -most), at(-most, most), 0, -1 << 33},
		{at(-most, -most), at(-most, -most), 0, 1 << 33},
		{at(most, most-1), at(most-1, most), 1<<17 - 1, 1<<33 - 1<<17},
	} {
		if got := Cross(x.a, x.b); got != x.cross {
			t.Errorf("Cross(%v, %v) = %d, want %d", x.a, x.b, got, x.cross)
		}
		if got := Dot(x.a, x.b); got != x.dot {
			t.Errorf("Dot(%v, %v) = %d, want %d", x.a, x.b, got, x.dot)
		}
	}
}

func bigCross(a, b api.Point) *big.Int {
	return new(big.Int).Sub(bigMul(bigInt(a.X), bigInt(b.Y)), bigMul(bigInt(a.Y), bigInt(b.X)))
}

func bigDot(a, b api.Point) *big.Int {
	return new(big.Int).Add(bigMul(bigInt(a.X), bigInt(b.X)), bigMul(bigInt(a.Y), bigInt(b.Y)))
}

func TestCrossAndDotAreExact(t *testing.T) {
	vectors := points(components)
	for _, a := range vectors {
		for _, b := range vectors {
			if got, want := Cross(a, b), bigCross(a, b); bigInt(got).Cmp(want) != 0 {
				t.Errorf("Cross(%v, %v) = %d, want %v", a, b, got, want)
			}
			if got, want := Dot(a, b), bigDot(a, b); bigInt(got).Cmp(want) != 0 {
				t.Errorf("Dot(%v, %v) = %d, want %v", a, b, got, want)
			}
		}
	}
}

// P3.1: Side.

func TestSideExamples(t *testing.T) {
	const far, edgeFar = api.Far, api.EdgeFar
	for _, x := range []struct {
		e    api.Edge
		p    api.Point
		want int
	}{
		{edge(0, 0, 10, 0), at(3, 4), 1},
		{edge(0, 0, 10, 0), at(3, -4), -1},
		{edge(10, 0, 0, 0), at(3, 4), -1},
		{edge(10, 0, 0, 0), at(3, -4), 1},
		{edge(2, 3, 2, 9), at(1, 5), 1},
		{edge(2, 3, 2, 9), at(3, 5), -1},
		// On the edge, at its ends, and on its line before and behind it.
		{edge(1, 1, 7, 4), at(3, 2), 0},
		{edge(1, 1, 7, 4), at(1, 1), 0},
		{edge(1, 1, 7, 4), at(7, 4), 0},
		{edge(1, 1, 7, 4), at(-1, 0), 0},
		{edge(1, 1, 7, 4), at(9, 5), 0},
		// Just beside the line.
		{edge(1, 1, 7, 4), at(4, 3), 1},
		{edge(1, 1, 7, 4), at(4, 2), -1},
		{edge(-edgeFar, -edgeFar, edgeFar, edgeFar), at(far, far), 0},
		{edge(-edgeFar, -edgeFar, edgeFar, edgeFar), at(far-1, far), 1},
		{edge(-edgeFar, -edgeFar, edgeFar, edgeFar), at(far, far-1), -1},
		{edge(-edgeFar, -edgeFar, edgeFar, edgeFar), at(-far, far), 1},
		{edge(-edgeFar, -edgeFar, edgeFar, edgeFar), at(far, -far), -1},
		{edge(-edgeFar, -edgeFar, edgeFar, edgeFar-1), at(edgeFar, edgeFar), 1},
		// An edge without length has no sides.
		{edge(2, 0, 2, 0), at(5, 4), 0},
		{edge(2, 0, 2, 0), at(2, 0), 0},
		{edge(edgeFar, edgeFar, edgeFar, edgeFar), at(-far, far), 0},
	} {
		if got := Side(x.e, x.p); got != x.want {
			t.Errorf("Side(%v, %v) = %d, want %d", x.e, x.p, got, x.want)
		}
	}
}

// wantSide is P3.1, word for word, in numbers of any size.
func wantSide(e api.Edge, p api.Point) int {
	left := bigMul(bigSub(e.B.X, e.A.X), bigSub(p.Y, e.A.Y))
	right := bigMul(bigSub(e.B.Y, e.A.Y), bigSub(p.X, e.A.X))
	return left.Cmp(right)
}

// P3.2: Square and Line.

func TestDistanceExamples(t *testing.T) {
	for _, x := range []struct {
		e            api.Edge
		p            api.Point
		square, line api.Frac
	}{
		// The nearest point is the foot between the ends.
		{edge(0, 0, 10, 0), at(3, 4), frac(16, 1), frac(16, 1)},
		{edge(0, 0, 10, 0), at(3, -4), frac(16, 1), frac(16, 1)},
		{edge(10, 0, 0, 0), at(3, 4), frac(16, 1), frac(16, 1)},
		{edge(2, -5, 2, 5), at(-7, 1), frac(81, 1), frac(81, 1)},
		{edge(0, 0, 3, 1), at(1, 1), frac(2, 5), frac(2, 5)},
		{edge(0, 0, 1, 1), at(1, 0), frac(1, 2), frac(1, 2)},
		{edge(0, 0, 2, 1), at(1, 1), frac(1, 5), frac(1, 5)},
		// It is A.
		{edge(0, 0, 10, 0), at(-3, 4), frac(25, 1), frac(16, 1)},
		{edge(1, 1, 11, 1), at(-2, -3), frac(25, 1), frac(16, 1)},
		{edge(0, 0, 3, 1), at(-1, 1), frac(2, 1), frac(8, 5)},
		// It is B.
		{edge(0, 0, 10, 0), at(13, -4), frac(25, 1), frac(16, 1)},
		{edge(0, 0, 3, 1), at(4, 0), frac(2, 1), frac(8, 5)},
		{edge(0, 0, 3, 1), at(5, 1), frac(4, 1), frac(2, 5)},
		// At the change from A to the foot, and just before and behind it.
		{edge(0, 0, 4, 2), at(-1, 2), frac(5, 1), frac(5, 1)},
		{edge(0, 0, 4, 2), at(-2, 2), frac(8, 1), frac(36, 5)},
		{edge(0, 0, 4, 2), at(-1, 1), frac(2, 1), frac(9, 5)},
		{edge(0, 0, 4, 2), at(-1, 3), frac(49, 5), frac(49, 5)},
		{edge(0, 0, 4, 2), at(0, 2), frac(16, 5), frac(16, 5)},
		// At the change from the foot to B, and just before and behind it.
		{edge(0, 0, 4, 2), at(3, 4), frac(5, 1), frac(5, 1)},
		{edge(0, 0, 4, 2), at(2, 4), frac(36, 5), frac(36, 5)},
		{edge(0, 0, 4, 2), at(3, 3), frac(9, 5), frac(9, 5)},
		{edge(0, 0, 4, 2), at(3, 5), frac(10, 1), frac(49, 5)},
		{edge(0, 0, 4, 2), at(4, 4), frac(4, 1), frac(16, 5)},
		// On the edge, at its ends, and on its line before and behind it.
		{edge(1, 1, 7, 4), at(3, 2), frac(0, 1), frac(0, 1)},
		{edge(1, 1, 7, 4), at(1, 1), frac(0, 1), frac(0, 1)},
		{edge(1, 1, 7, 4), at(7, 4), frac(0, 1), frac(0, 1)},
		{edge(1, 1, 7, 4), at(-1, 0), frac(5, 1), frac(0, 1)},
		{edge(1, 1, 7, 4), at(9, 5), frac(5, 1), frac(0, 1)},
		// What the square of the cross product and of the edge's length have in common is taken out of both.
		{edge(0, 0, 6, 8), at(0, 5), frac(9, 1), frac(9, 1)},
		{edge(0, 0, 6, 2), at(2, 2), frac(8, 5), frac(8, 5)},
		{edge(0, 0, 6, 6), at(5, 0), frac(25, 2), frac(25, 2)},
		{edge(0, 0, 30, 10), at(1, 1), frac(2, 5), frac(2, 5)},
		// Of an edge whose A is its B.
		{edge(2, 0, 2, 0), at(5, 4), frac(25, 1), frac(25, 1)},
		{edge(2, 0, 2, 0), at(2, 0), frac(0, 1), frac(0, 1)},
		{edge(-3, 7, -3, 7), at(-4, 9), frac(5, 1), frac(5, 1)},
	} {
		if got := Square(x.e, x.p); got != x.square {
			t.Errorf("Square(%v, %v) = %v, want %v", x.e, x.p, got, x.square)
		}
		if got := Line(x.e, x.p); got != x.line {
			t.Errorf("Line(%v, %v) = %v, want %v", x.e, x.p, got, x.line)
		}
	}
}

func TestDistancesAtTheBounds(t *testing.T) {
	const far, edgeFar = api.Far, api.EdgeFar
	for _, x := range []struct {
		e            api.Edge
		p            api.Point
		square, line api.Frac
	}{
		{edge(-edgeFar, -edgeFar, edgeFar, edgeFar), at(far, far), frac(9<<27, 1), frac(0, 1)},
		{edge(-edgeFar, -edgeFar, edgeFar, edgeFar), at(-far, far), frac(1<<31, 1), frac(1<<31, 1)},
		{edge(-edgeFar, edgeFar, edgeFar, -edgeFar), at(far, far), frac(1<<31, 1), frac(1<<31, 1)},
		{edge(-edgeFar, edgeFar, edgeFar, edgeFar), at(0, -far), frac(25<<26, 1), frac(25<<26, 1)},
		{edge(-edgeFar, edgeFar, edgeFar, edgeFar), at(-far, -far), frac(34<<26, 1), frac(25<<26, 1)},
		{edge(edgeFar, edgeFar, edgeFar, edgeFar), at(-far, -far), frac(50<<26, 1), frac(50<<26, 1)},
		// A great Num and Den without a common divisor stay as they are.
		{edge(-edgeFar, -edgeFar, edgeFar, edgeFar-1), at(edgeFar, edgeFar), frac(1, 1), frac(1<<28, 1<<28+(1<<14-1)*(1<<14-1))},
	} {
		if got := Square(x.e, x.p); got != x.square {
			t.Errorf("Square(%v, %v) = %v, want %v", x.e, x.p, got, x.square)
		}
		if got := Line(x.e, x.p); got != x.line {
			t.Errorf("Line(%v, %v) = %v, want %v", x.e, x.p, got, x.line)
		}
	}
}

// squareAt is the square of the distance of p from the point that is the part t of the way from A to B.
func squareAt(e api.Edge, p api.Point, t *big.Rat) *big.Rat {
	sum := new(big.Rat)
	for _, axis := range [][3]int{{e.A.X, e.B.X, p.X}, {e.A.Y, e.B.Y, p.Y}} {
		a, b, c := int64(axis[0]), int64(axis[1]), int64(axis[2])
		way := new(big.Rat).Mul(t, big.NewRat(b-a, 1))
		way.Add(way, big.NewRat(a-c, 1))
		sum.Add(sum, way.Mul(way, way))
	}
	return sum
}

// wantDistances are P3.2's squares, by the foot itself, whose coordinates are fractions.
func wantDistances(e api.Edge, p api.Point) (square, line *big.Rat) {
	ax, ay := int64(e.A.X), int64(e.A.Y)
	bx, by := int64(e.B.X)-ax, int64(e.B.Y)-ay
	px, py := int64(p.X)-ax, int64(p.Y)-ay
	foot := new(big.Rat)
	if e.A != e.B {
		foot.SetFrac64(bx*px+by*py, bx*bx+by*by)
	}
	line = squareAt(e, p, foot)
	if foot.Sign() < 0 {
		foot.SetInt64(0)
	}
	if one := big.NewRat(1, 1); foot.Cmp(one) > 0 {
		foot.Set(one)
	}
	return squareAt(e, p, foot), line
}

// isLeastForm holds a fraction against a Rat of math/big, which keeps its least form with a denominator above 0.
func isLeastForm(f api.Frac, want *big.Rat) bool {
	return bigInt(f.Num).Cmp(want.Num()) == 0 && bigInt(f.Den).Cmp(want.Denom()) == 0
}

func checkEdge(t *testing.T, e api.Edge, p api.Point) {
	t.Helper()
	if got, want := Side(e, p), wantSide(e, p); got != want {
		t.Errorf("Side(%v, %v) = %d, want %d", e, p, got, want)
	}
	square, line := wantDistances(e, p)
	if got := Square(e, p); !isLeastForm(got, square) {
		t.Errorf("Square(%v, %v) = %v, want %v", e, p, got, square)
	}
	if got := Line(e, p); !isLeastForm(got, line) {
		t.Errorf("Line(%v, %v) = %v, want %v", e, p, got, line)
	}
}

// Every small edge with every point around it: all feet, all changes between them, all points on lines.
func TestEdgesAreExactNearby(t *testing.T) {
	for _, e := range edges([]int{-2, 0, 1, 3}) {
		for _, p := range points([]int{-5, -4, -3, -2, -1, 0, 1, 2, 3, 4, 5, 6}) {
			checkEdge(t, e, p)
		}
	}
}

func TestEdgesAreExactUpToTheBounds(t *testing.T) {
	around := points(pointCoords)
	for _, e := range edges(edgeCoords) {
		for _, p := range around {
			checkEdge(t, e, p)
		}
	}
}

// The foot of a point is at an end, and of the points beside it just before and behind that end.
func TestEdgesAreExactAtTheChanges(t *testing.T) {
	for _, e := range []api.Edge{
		edge(0, 0, 7, 3), edge(-5, 2, 4, -9), edge(100, -100, -150, 60),
		edge(-api.EdgeFar, -api.EdgeFar, api.EdgeFar, api.EdgeFar-1), edge(api.EdgeFar, -3, -api.EdgeFar+2, 1),
	} {
		way := Sub(e.B, e.A)
		for _, end := range []api.Point{e.A, e.B} {
			for _, side := range []int{-1, 1} {
				p := at(end.X-side*way.Y, end.Y+side*way.X)
				for _, d := range points([]int{-1, 0, 1}) {
					checkEdge(t, e, at(p.X+d.X, p.Y+d.Y))
				}
			}
		}
	}
}

// Nothing is promised here, but that no call panics and every one ends (W1), and that it answers the same again (W2).
func TestBeyondTheBounds(t *testing.T) {
	all := points(beyond)
	for _, a := range all {
		for _, b := range all {
			if got := Sub(a, b); got != at(a.X-b.X, a.Y-b.Y) {
				t.Errorf("Sub(%v, %v) = %v", a, b, got)
			}
			Cross(a, b)
			Dot(a, b)
			for _, p := range []api.Point{{}, a, b, at(1, -1), at(math.MinInt, math.MaxInt), at(math.MaxInt, math.MinInt), at(math.MinInt, math.MinInt), at(1<<32, 1<<31)} {
				e := api.Edge{A: a, B: b}
				if side := Side(e, p); side < -1 || side > 1 || side != Side(e, p) {
					t.Errorf("Side(%v, %v) = %d", e, p, side)
				}
				if Square(e, p) != Square(e, p) || Line(e, p) != Line(e, p) {
					t.Errorf("Square(%v, %v) or Line of them changes", e, p)
				}
			}
		}
	}
}
