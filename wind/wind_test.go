package wind

import (
	"math"
	"math/big"
	"math/rand/v2"
	"slices"
	"testing"

	"punchcut/api"
)

func at(x, y int) api.Point { return api.Point{X: x, Y: y} }

func edge(ax, ay, bx, by int) api.Edge { return api.Edge{A: at(ax, ay), B: at(bx, by)} }

// ring is the edges from each point to the next one, and from the last one to the first.
func ring(points ...api.Point) []api.Edge {
	var es []api.Edge
	for k, a := range points {
		es = append(es, api.Edge{A: a, B: points[(k+1)%len(points)]})
	}
	return es
}

// square is a counterclockwise ring.
func square(least, greatest int) []api.Edge {
	return ring(at(least, least), at(greatest, least), at(greatest, greatest), at(least, greatest))
}

// back is the edges the other way round.
func back(es []api.Edge) []api.Edge {
	turned := make([]api.Edge, len(es))
	for k, e := range es {
		turned[len(es)-1-k] = api.Edge{A: e.B, B: e.A}
	}
	return turned
}

// star is a ring of five points that winds around its middle, near 0, 0, twice.
func star() []api.Edge {
	return ring(at(0, 100), at(-59, -81), at(95, 31), at(-95, 31), at(59, -81))
}

// Coordinates of edges and of other points, up to the last ones for which something is promised.
var (
	edgeCoords  = []int{-api.EdgeFar, -api.EdgeFar + 1, -1, 0, 1, api.EdgeFar - 1, api.EdgeFar}
	pointCoords = []int{-api.Far, -api.Far + 1, -api.EdgeFar, -1, 0, 1, api.EdgeFar - 1, api.EdgeFar, api.Far - 1, api.Far}
)

// beyond are numbers outside of them.
var beyond = []int{
	math.MinInt, math.MinInt + 1, -1 << 62, -1 << 32, -1 << 31, -api.Far - 1, -1, 0, 1,
	api.EdgeFar + 1, api.Far + 1, 1 << 31, 3037000500, 1 << 32, 1 << 62, math.MaxInt - 1, math.MaxInt,
}

func points(coords []int) []api.Point {
	var all []api.Point
	for _, y := range coords {
		for _, x := range coords {
			all = append(all, at(x, y))
		}
	}
	return all
}

// span is the numbers from -n to n.
func span(n int) []int {
	var all []int
	for k := -n; k <= n; k++ {
		all = append(all, k)
	}
	return all
}

// crossing is where an edge that is not level has a height, as an X.
func crossing(e api.Edge, y int) *big.Rat {
	x := big.NewRat(int64(y-e.A.Y), int64(e.B.Y-e.A.Y))
	x.Mul(x, big.NewRat(int64(e.B.X-e.A.X), 1))
	return x.Add(x, big.NewRat(int64(e.A.X), 1))
}

// crossings is P7.1 seen from another side: how many edges go up through the height of a point, less those that go down, at an X greater than the point's, and at one that is less.
func crossings(es []api.Edge, p api.Point) (right, left int) {
	for _, e := range es {
		if min(e.A.Y, e.B.Y) > p.Y || max(e.A.Y, e.B.Y) <= p.Y {
			continue
		}
		way := 1
		if e.B.Y < e.A.Y {
			way = -1
		}
		switch crossing(e, p.Y).Cmp(big.NewRat(int64(p.X), 1)) {
		case 1:
			right += way
		case -1:
			left += way
		}
	}
	return right, left
}

// wantOn is the first half of P7.2 seen from another side: an edge has a point on it at whose height, and at whose X, the point is.
func wantOn(es []api.Edge, p api.Point) bool {
	return slices.ContainsFunc(es, func(e api.Edge) bool {
		if p.Y < min(e.A.Y, e.B.Y) || p.Y > max(e.A.Y, e.B.Y) {
			return false
		}
		if e.A.Y == e.B.Y {
			return p.X >= min(e.A.X, e.B.X) && p.X <= max(e.A.X, e.B.X)
		}
		return crossing(e, p.Y).Cmp(big.NewRat(int64(p.X), 1)) == 0
	})
}

func wantArea(es []api.Edge) *big.Int {
	area := new(big.Int)
	for _, e := range es {
		ax, ay, bx, by := big.NewInt(int64(e.A.X)), big.NewInt(int64(e.A.Y)), big.NewInt(int64(e.B.X)), big.NewInt(int64(e.B.Y))
		area.Add(area, ax.Mul(ax, by))
		area.Sub(area, ay.Mul(ay, bx))
	}
	return area
}

// check holds Number, On and In against what is wanted, and against what W6 says of their argument.
func check(t *testing.T, es []api.Edge, p api.Point, number int, on bool) {
	t.Helper()
	before := slices.Clone(es)
	if got := Number(es, p); got != number {
		t.Fatalf("Number(%v, %v) = %d, want %d", es, p, got, number)
	}
	if got := On(es, p); got != on {
		t.Fatalf("On(%v, %v) = %v, want %v", es, p, got, on)
	}
	if got := In(es, p); got != (on || number != 0) {
		t.Fatalf("In(%v, %v) = %v, with a Number of %d and On %v", es, p, got, number, on)
	}
	if !slices.Equal(es, before) {
		t.Fatalf("the edges %v have become %v", before, es)
	}
}

// checkByCrossings is check with what the crossings say.
func checkByCrossings(t *testing.T, es []api.Edge, p api.Point) {
	t.Helper()
	number, _ := crossings(es, p)
	check(t, es, p, number, wantOn(es, p))
}

func checkArea(t *testing.T, es []api.Edge, want int) {
	t.Helper()
	before := slices.Clone(es)
	if got := Area(es); got != want {
		t.Fatalf("Area(%v) = %d, want %d", es, got, want)
	}
	if !slices.Equal(es, before) {
		t.Fatalf("Area has changed its edges from %v to %v", before, es)
	}
}

// P7.1 and P7.2: Number, On and In, of one edge.

func TestNoEdges(t *testing.T) {
	for _, p := range points(pointCoords) {
		check(t, nil, p, 0, false)
		check(t, []api.Edge{}, p, 0, false)
	}
	checkArea(t, nil, 0)
	checkArea(t, []api.Edge{}, 0)
}

func TestOneEdge(t *testing.T) {
	up, down := edge(2, 0, 6, 8), edge(6, 8, 2, 0)
	for _, x := range []struct {
		e      api.Edge
		p      api.Point
		number int
		on     bool
	}{
		// At half its height: on its left, on it, on its right.
		{up, at(3, 4), 1, false},
		{up, at(-30000, 4), 1, false},
		{up, at(4, 4), 0, true},
		{up, at(5, 4), 0, false},
		{up, at(30000, 4), 0, false},
		{down, at(3, 4), -1, false},
		{down, at(-30000, 4), -1, false},
		{down, at(4, 4), 0, true},
		{down, at(5, 4), 0, false},
		{down, at(30000, 4), 0, false},
		// As high as its lower end, which counts, be it A or B.
		{up, at(1, 0), 1, false},
		{up, at(2, 0), 0, true},
		{up, at(3, 0), 0, false},
		{down, at(1, 0), -1, false},
		{down, at(2, 0), 0, true},
		{down, at(3, 0), 0, false},
		// As high as its upper end, which does not.
		{up, at(5, 8), 0, false},
		{up, at(6, 8), 0, true},
		{up, at(7, 8), 0, false},
		{down, at(5, 8), 0, false},
		{down, at(6, 8), 0, true},
		{down, at(7, 8), 0, false},
		// One higher than the lower end, one lower than the upper end, and just beyond both.
		{up, at(2, 1), 1, false},
		{up, at(5, 7), 1, false},
		{up, at(1, -1), 0, false},
		{up, at(5, 9), 0, false},
		{down, at(2, 1), -1, false},
		{down, at(5, 7), -1, false},
		{down, at(1, -1), 0, false},
		{down, at(5, 9), 0, false},
		// On its line, on it, and beyond its ends.
		{up, at(3, 2), 0, true},
		{up, at(5, 6), 0, true},
		{up, at(1, -2), 0, false},
		{up, at(7, 10), 0, false},
		{up, at(-4094, -8192), 0, false},
		{down, at(3, 2), 0, true},
		{down, at(1, -2), 0, false},
		{down, at(7, 10), 0, false},
		// Next to it by less than half a small unit.
		{up, at(4, 5), 1, false},
		{up, at(4, 3), 0, false},
		{down, at(4, 5), -1, false},
		{down, at(4, 3), 0, false},
	} {
		check(t, []api.Edge{x.e}, x.p, x.number, x.on)
	}
}

// A level edge and one without length never count, but a point can be on them.
func TestLevelEdges(t *testing.T) {
	for _, e := range []api.Edge{edge(2, 5, 6, 5), edge(6, 5, 2, 5)} {
		for _, p := range points(span(9)) {
			check(t, []api.Edge{e}, p, 0, p.Y == 5 && p.X >= 2 && p.X <= 6)
		}
	}
	for _, p := range points(span(9)) {
		check(t, []api.Edge{edge(2, 5, 2, 5)}, p, 0, p == at(2, 5))
	}
}

func TestUprightEdges(t *testing.T) {
	for _, p := range points(span(9)) {
		number, on := 0, p.X == 5 && p.Y >= 2 && p.Y <= 6
		if p.X < 5 && p.Y >= 2 && p.Y < 6 {
			number = 1
		}
		check(t, []api.Edge{edge(5, 2, 5, 6)}, p, number, on)
		check(t, []api.Edge{edge(5, 6, 5, 2)}, p, -number, on)
	}
}

// All edges between points near 0, with all points around them.
func TestAllSmallEdges(t *testing.T) {
	ends, around := points(span(2)), points(span(4))
	for _, a := range ends {
		for _, b := range ends {
			es := []api.Edge{{A: a, B: b}}
			for _, p := range around {
				checkByCrossings(t, es, p)
			}
			checkArea(t, es, int(wantArea(es).Int64()))
		}
	}
}

func TestEdgesAtTheBounds(t *testing.T) {
	ends, around := points(edgeCoords), points(pointCoords)
	for _, a := range ends {
		for _, b := range ends {
			es := []api.Edge{{A: a, B: b}}
			for _, p := range around {
				checkByCrossings(t, es, p)
			}
			checkArea(t, es, int(wantArea(es).Int64()))
		}
	}
}

// A point next to the longest edges is not on them, as near as it may be.
func TestNextToTheLongestEdges(t *testing.T) {
	const far = api.EdgeFar
	long := edge(-far, -far, far, far-1)
	for _, x := range []struct {
		p      api.Point
		number int
		on     bool
	}{
		{at(-far, -far), 0, true},
		{at(far, far-1), 0, true},
		{at(-1, -1), 1, false},
		{at(0, 0), 1, false},
		{at(0, -1), 0, false},
		{at(far-1, far-1), 0, false},
		{at(far-1, far-2), 0, false},
		{at(far-2, far-2), 1, false},
		{at(far, far-2), 0, false},
		{at(1-far, 1-far), 1, false},
		{at(1-far, -far), 0, false},
		{at(far+1, far), 0, false},
	} {
		check(t, []api.Edge{long}, x.p, x.number, x.on)
		check(t, back([]api.Edge{long}), x.p, -x.number, x.on)
	}
}

// P7.1 and P7.2: Number, On and In, of several edges.

// The chapter's example, and a clockwise square.
func TestSquares(t *testing.T) {
	for _, p := range points(span(12)) {
		out := max(p.X, -p.X, p.Y, -p.Y)
		if out == 10 {
			continue
		}
		number := 0
		if out < 10 {
			number = 1
		}
		check(t, square(-10, 10), p, number, false)
		check(t, back(square(-10, 10)), p, -number, false)
	}
}

// On the square itself Number depends on the side: it counts a point of the left side and of the lower one, but for their far ends. In holds on all four.
func TestOnSquares(t *testing.T) {
	for _, x := range []struct {
		p      api.Point
		number int
	}{
		{at(0, 0), 1}, {at(10, 0), 0}, {at(10, 10), 0}, {at(0, 10), 0},
		{at(5, 0), 1}, {at(10, 5), 0}, {at(5, 10), 0}, {at(0, 5), 1},
		{at(9, 0), 1}, {at(10, 9), 0}, {at(1, 10), 0}, {at(0, 9), 1},
	} {
		check(t, square(0, 10), x.p, x.number, true)
		check(t, back(square(0, 10)), x.p, -x.number, true)
	}
}

func TestGreatestSquares(t *testing.T) {
	const far = api.EdgeFar
	es := square(-far, far)
	for _, p := range points(pointCoords) {
		checkByCrossings(t, es, p)
		checkByCrossings(t, back(es), p)
	}
	check(t, es, at(0, 0), 1, false)
	check(t, es, at(far-1, far-1), 1, false)
	check(t, es, at(far, far), 0, true)
	check(t, es, at(far+1, 0), 0, false)
	check(t, es, at(-api.Far, -api.Far), 0, false)
	check(t, back(es), at(0, 0), -1, false)
}

func TestSeveralRings(t *testing.T) {
	outer, inner, beside := square(0, 10), square(2, 6), ring(at(20, 0), at(30, 0), at(25, 9))
	for _, x := range []struct {
		es     []api.Edge
		p      api.Point
		number int
		on     bool
	}{
		// Twice round, by two rings, by one ring told twice, and by one that crosses itself.
		{slices.Concat(outer, inner), at(3, 3), 2, false},
		{slices.Concat(outer, inner), at(8, 8), 1, false},
		{slices.Concat(outer, outer), at(8, 8), 2, false},
		{slices.Concat(outer, outer, inner, outer), at(3, 3), 4, false},
		{slices.Concat(back(outer), back(inner)), at(3, 3), -2, false},
		{star(), at(0, 0), 2, false},
		{star(), at(0, 80), 1, false},
		{star(), at(0, -60), 0, false},
		{back(star()), at(0, 0), -2, false},
		{back(star()), at(0, 80), -1, false},
		// A hole: the inner ring goes the other way round.
		{slices.Concat(outer, back(inner)), at(3, 3), 0, false},
		{slices.Concat(outer, back(inner)), at(8, 8), 1, false},
		{slices.Concat(outer, back(inner)), at(6, 4), 1, true},
		{slices.Concat(outer, back(inner)), at(2, 4), 0, true},
		{slices.Concat(outer, back(outer)), at(5, 5), 0, false},
		{slices.Concat(outer, back(outer)), at(10, 5), 0, true},
		// Beside each other; the point's place among the edges is no matter.
		{slices.Concat(outer, beside), at(5, 5), 1, false},
		{slices.Concat(outer, beside), at(25, 5), 1, false},
		{slices.Concat(outer, beside), at(15, 5), 0, false},
		{slices.Concat(outer, beside), at(25, 9), 0, true},
		{slices.Concat(beside, outer), at(25, 9), 0, true},
		{slices.Concat(outer, back(beside)), at(5, 5), 1, false},
		{slices.Concat(outer, back(beside)), at(25, 5), -1, false},
		// As high as a corner on the right, at which a ring passes the height, or touches it from above or from below.
		{ring(at(0, -5), at(5, 0), at(0, 5), at(-5, 0)), at(0, 0), 1, false},
		{ring(at(0, -5), at(5, 0), at(0, 5), at(-5, 0)), at(-6, 0), 0, false},
		{ring(at(5, 0), at(8, 5), at(2, 5)), at(0, 0), 0, false},
		{ring(at(5, 0), at(2, -5), at(8, -5)), at(0, 0), 0, false},
		// As high as a level edge on the right, at which a ring steps up, or which is its lowest or its highest edge.
		{ring(at(-9, -9), at(7, -9), at(7, 0), at(4, 0), at(4, 9), at(-9, 9)), at(0, 0), 1, false},
		{ring(at(-9, -9), at(4, -9), at(4, 0), at(7, 0), at(7, 9), at(-9, 9)), at(0, 0), 1, false},
		{ring(at(3, 0), at(8, 0), at(8, 5), at(3, 5)), at(0, 0), 0, false},
		{ring(at(3, -5), at(8, -5), at(8, 0), at(3, 0)), at(0, 0), 0, false},
		// Edges that are no ring are counted all the same.
		{[]api.Edge{edge(5, -5, 5, 5), edge(7, -5, 7, 5), edge(9, 5, 9, -5)}, at(0, 0), 1, false},
		{[]api.Edge{edge(5, -5, 5, 5), edge(7, -5, 7, 5), edge(9, -5, 9, 5)}, at(8, 0), 1, false},
		{[]api.Edge{edge(5, 5, 5, -5), edge(7, 5, 7, -5), edge(-9, -5, -9, 5)}, at(0, 0), -2, false},
	} {
		check(t, x.es, x.p, x.number, x.on)
	}
}

// On is told of the first edge, of the last one, and of one between them.
func TestOnEachEdge(t *testing.T) {
	for n := 1; n <= 5; n++ {
		for k := range n {
			es := make([]api.Edge, n)
			for j := range es {
				es[j] = edge(-20, j, -10, j)
			}
			check(t, es, at(5, 50), 0, false)
			es[k] = edge(0, 50, 10, 50)
			check(t, es, at(5, 50), 0, true)
		}
	}
}

// anyRings are rings of any points, and at times an edge more, so that not all of them are closed.
func anyRings(r *rand.Rand, coord func() int) (es []api.Edge, closed bool) {
	for range r.IntN(4) {
		corners := make([]api.Point, 1+r.IntN(8))
		for k := range corners {
			corners[k] = at(coord(), coord())
		}
		es = append(es, ring(corners...)...)
	}
	if r.IntN(4) == 0 {
		return append(es, edge(coord(), coord(), coord(), coord())), false
	}
	return es, true
}

// anyCoords are coordinates of edges and of points that are near each other, or anywhere between the bounds, or at them.
func anyCoords(r *rand.Rand) (ofEdge, ofPoint func() int) {
	switch r.IntN(3) {
	case 0:
		return func() int { return r.IntN(9) - 4 }, func() int { return r.IntN(11) - 5 }
	case 1:
		within := func(n int) func() int { return func() int { return r.IntN(2*n+1) - n } }
		return within(api.EdgeFar), within([]int{api.EdgeFar, api.Far}[r.IntN(2)])
	}
	return func() int { return edgeCoords[r.IntN(len(edgeCoords))] }, func() int { return pointCoords[r.IntN(len(pointCoords))] }
}

func TestAnyEdges(t *testing.T) {
	r := rand.New(rand.NewPCG(7, 1))
	counts := map[int]int{}
	for range 20000 {
		ofEdge, ofPoint := anyCoords(r)
		es, closed := anyRings(r, ofEdge)
		p := at(ofPoint(), ofPoint())
		right, left := crossings(es, p)
		on := wantOn(es, p)
		check(t, es, p, right, on)
		check(t, back(es), p, -right, on)
		// What goes up around a point on its right comes down again on its left.
		if closed && !on && right != -left {
			t.Fatalf("%v go round %v %d times on its right, and %d on its left", es, p, right, left)
		}
		if on {
			counts[100]++
		} else {
			counts[right]++
		}
	}
	// Otherwise the edges above would hold the functions to little.
	for _, n := range []int{-2, -1, 0, 1, 2, 100} {
		if counts[n] < 20 {
			t.Errorf("a Number of %d (100: On) is seen only %d times", n, counts[n])
		}
	}
}

// P7.2: Area.

func TestAreaExamples(t *testing.T) {
	const far = api.EdgeFar
	outer, inner := square(0, 10), square(2, 6)
	for _, x := range []struct {
		es   []api.Edge
		want int
	}{
		// Each of the four numbers of an edge, and their order.
		{[]api.Edge{edge(3, 5, 7, 11)}, -2},
		{[]api.Edge{edge(7, 11, 3, 5)}, 2},
		{[]api.Edge{edge(1, 0, 0, 1)}, 1},
		{[]api.Edge{edge(0, 1, 1, 0)}, -1},
		{[]api.Edge{edge(-3, 5, 7, -11)}, -2},
		{[]api.Edge{edge(3, 5, 3, 5)}, 0},
		{[]api.Edge{edge(0, 0, 7, 11)}, 0},
		// Twice the area of what goes round to the left, below zero to the right, wherever it is.
		{outer, 200},
		{back(outer), -200},
		{square(-10, 0), 200},
		{square(-5, 5), 200},
		{square(4000, 4010), 200},
		{ring(at(0, 0), at(1, 0), at(0, 1)), 1},
		{ring(at(0, 0), at(0, 1), at(1, 0)), -1},
		// Rings add up; a hole is taken away.
		{slices.Concat(outer, inner), 232},
		{slices.Concat(outer, back(inner)), 168},
		{slices.Concat(back(outer), inner), -168},
		{slices.Concat(outer, outer), 400},
		// None: there and back, a bow whose halves go round either way, points on one line, one point.
		{slices.Concat(outer, back(outer)), 0},
		{ring(at(0, 0), at(2, 2), at(2, 0), at(0, 2)), 0},
		{ring(at(1, 1), at(3, 3), at(9, 9)), 0},
		{ring(at(4, 5)), 0},
		// At the bounds.
		{square(-far, far), 8 * far * far},
		{back(square(-far, far)), -8 * far * far},
		{[]api.Edge{edge(far, -far, far, far)}, 2 * far * far},
		{[]api.Edge{edge(far, far, far, -far)}, -2 * far * far},
		{[]api.Edge{edge(-far, -far, far, far)}, 0},
	} {
		checkArea(t, x.es, x.want)
	}
}

func TestAreaOfAnyEdges(t *testing.T) {
	r := rand.New(rand.NewPCG(7, 2))
	for range 20000 {
		ofEdge, _ := anyCoords(r)
		es, _ := anyRings(r, ofEdge)
		want := int(wantArea(es).Int64())
		checkArea(t, es, want)
		checkArea(t, back(es), -want)
	}
}

// A ring's area is the same elsewhere, up to the bounds.
func TestAreaOfMovedRings(t *testing.T) {
	const most = api.EdgeFar - 90
	r := rand.New(rand.NewPCG(7, 4))
	for range 5000 {
		corners := make([]api.Point, 1+r.IntN(8))
		moved := make([]api.Point, len(corners))
		for k := range corners {
			corners[k] = at(r.IntN(2*most+1)-most, r.IntN(2*most+1)-most)
			moved[k] = at(corners[k].X+90, corners[k].Y-70)
		}
		checkArea(t, ring(moved...), Area(ring(corners...)))
	}
}

// More edges than any outline has are no reason for another answer.
func TestManyEdges(t *testing.T) {
	const far, times = api.EdgeFar, 100000
	es := slices.Repeat(square(-far, far), times)
	check(t, es, at(0, 0), times, false)
	check(t, es, at(far, 0), 0, true)
	checkArea(t, es, times*8*far*far)
}

// Beyond the bounds nothing is promised, but that all four answer (W1), the same each time (W2), and leave the edges alone (W6).
func TestBeyondTheBounds(t *testing.T) {
	r := rand.New(rand.NewPCG(7, 3))
	type answer struct {
		number, area int
		on, in       bool
	}
	ask := func(es []api.Edge, p api.Point) answer {
		return answer{Number(es, p), Area(es), On(es, p), In(es, p)}
	}
	for k := range 20000 {
		coord := func() int { return beyond[r.IntN(len(beyond))] }
		if k%2 == 0 {
			coord = func() int { return int(r.Uint64()) }
		}
		es := make([]api.Edge, r.IntN(8))
		for k := range es {
			es[k] = edge(coord(), coord(), coord(), coord())
		}
		before, p := slices.Clone(es), at(coord(), coord())
		if first, second := ask(es, p), ask(es, p); first != second {
			t.Fatalf("%v at %v: %v, and then %v", es, p, first, second)
		}
		if !slices.Equal(es, before) {
			t.Fatalf("the edges %v have become %v", before, es)
		}
	}
}
