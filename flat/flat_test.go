package flat

import (
	"math"
	"math/rand/v2"
	"slices"
	"testing"

	"punchcut/api"
)

func p(x, y int) api.Point { return api.Point{X: x, Y: y} }

func line(a, c api.Point) api.Seg { return api.Seg{A: a, B: a, C: c} }

func curve(a, b, c api.Point) api.Seg { return api.Seg{A: a, B: b, C: c, Curve: true} }

// way is the edges from each point to the next one.
func way(points ...api.Point) []api.Edge {
	var edges []api.Edge
	for k := 1; k < len(points); k++ {
		edges = append(edges, api.Edge{A: points[k-1], B: points[k]})
	}
	return edges
}

// bounds are the least and the greatest coordinate of a segment for which something is promised, and their neighbours.
var bounds = []int{-510, -509, 509, 510}

// wild are numbers outside of them.
var wild = []int{-511, 511, 1 << 31, -1 << 31, 1 << 59, 1 << 62, math.MaxInt, math.MinInt, math.MaxInt - 1, math.MinInt + 1}

// anyCoord is a coordinate that is at a bound, or near 0, or anywhere between the bounds.
func anyCoord(r *rand.Rand) int {
	switch r.IntN(3) {
	case 0:
		return r.IntN(5) - 2
	case 1:
		return bounds[r.IntN(len(bounds))]
	}
	return r.IntN(1021) - 510
}

// anySeg is a line or a curve; some have no length, or end where they began, or a control point at one of their ends; that of a line may be anywhere.
func anySeg(r *rand.Rand) api.Seg {
	anyPoint := func() api.Point { return p(anyCoord(r), anyCoord(r)) }
	s := api.Seg{A: anyPoint(), B: anyPoint(), C: anyPoint(), Curve: r.IntN(2) == 0}
	switch r.IntN(8) {
	case 0:
		s.B, s.C = s.A, s.A
	case 1:
		s.C = s.A
	case 2:
		s.B = s.A
	case 3:
		s.B = s.C
	}
	return s
}

func anySegs(r *rand.Rand, most int) []api.Seg {
	ss := make([]api.Seg, r.IntN(most+1))
	for k := range ss {
		ss[k] = anySeg(r)
	}
	return ss
}

// P6.1: On.

// wantOn is P6.1 seen from its other side: the point at k quarters of the way between two points that are themselves there between A and B, and between B and C. Each of the two steps multiplies by 4.
func wantOn(s api.Seg, k int) api.Point {
	between := func(a, b api.Point) api.Point {
		return p(4*a.X+k*(b.X-a.X), 4*a.Y+k*(b.Y-a.Y))
	}
	return between(between(s.A, s.B), between(s.B, s.C))
}

func TestOnExamples(t *testing.T) {
	for _, x := range []struct {
		s    api.Seg
		want [5]api.Point
	}{
		{curve(p(0, 0), p(0, 0), p(0, 0)), [5]api.Point{}},
		// Each of the three points alone, in X and in Y.
		{curve(p(1, 0), p(0, 0), p(0, 0)), [5]api.Point{p(16, 0), p(9, 0), p(4, 0), p(1, 0), p(0, 0)}},
		{curve(p(0, 0), p(1, 0), p(0, 0)), [5]api.Point{p(0, 0), p(6, 0), p(8, 0), p(6, 0), p(0, 0)}},
		{curve(p(0, 0), p(0, 0), p(1, 0)), [5]api.Point{p(0, 0), p(1, 0), p(4, 0), p(9, 0), p(16, 0)}},
		{curve(p(0, 1), p(0, 0), p(0, 0)), [5]api.Point{p(0, 16), p(0, 9), p(0, 4), p(0, 1), p(0, 0)}},
		{curve(p(0, 0), p(0, 1), p(0, 0)), [5]api.Point{p(0, 0), p(0, 6), p(0, 8), p(0, 6), p(0, 0)}},
		{curve(p(0, 0), p(0, 0), p(0, 1)), [5]api.Point{p(0, 0), p(0, 1), p(0, 4), p(0, 9), p(0, 16)}},
		// Six numbers, none of which is another's; below zero too.
		{curve(p(1, -2), p(30, 40), p(-500, 300)), [5]api.Point{p(16, -32), p(-311, 522), p(-1756, 1512), p(-4319, 2938), p(-8000, 4800)}},
		// At the bounds.
		{curve(p(-510, -510), p(510, 510), p(-510, -510)), [5]api.Point{p(-8160, -8160), p(-510*4, -510*4), p(0, 0), p(-510*4, -510*4), p(-8160, -8160)}},
		{curve(p(-510, 510), p(-510, 510), p(-510, 510)), [5]api.Point{p(-8160, 8160), p(-8160, 8160), p(-8160, 8160), p(-8160, 8160), p(-8160, 8160)}},
		{curve(p(-510, 510), p(510, 510), p(510, -510)), [5]api.Point{p(-8160, 8160), p(-1020, 7140), p(4080, 4080), p(7140, -1020), p(8160, -8160)}},
		// A line's points are told in the same way, with its B, wherever that is.
		{line(p(2, 3), p(10, 3)), [5]api.Point{p(32, 48), p(40, 48), p(64, 48), p(104, 48), p(160, 48)}},
		{api.Seg{A: p(1, -2), B: p(30, 40), C: p(-500, 300)}, [5]api.Point{p(16, -32), p(-311, 522), p(-1756, 1512), p(-4319, 2938), p(-8000, 4800)}},
	} {
		for k, want := range x.want {
			if got := On(x.s, k); got != want {
				t.Errorf("On(%v, %d) = %v, want %v", x.s, k, got, want)
			}
		}
	}
}

// All segments whose coordinates are at the bounds, or near 0; X and Y do not mix.
func TestOnAtTheBounds(t *testing.T) {
	numbers := []int{-510, -509, -1, 0, 1, 509, 510}
	for _, a := range numbers {
		for _, b := range numbers {
			for _, c := range numbers {
				for k := range 5 {
					want := (4-k)*(4-k)*a + 2*k*(4-k)*b + k*k*c
					s := curve(p(a, 7), p(b, -8), p(c, 9))
					if got := On(s, k); got != p(want, wantOn(s, k).Y) {
						t.Fatalf("On(%v, %d) = %v, want an X of %d", s, k, got, want)
					}
					s = curve(p(7, a), p(-8, b), p(9, c))
					if got := On(s, k); got != p(wantOn(s, k).X, want) {
						t.Fatalf("On(%v, %d) = %v, want a Y of %d", s, k, got, want)
					}
				}
			}
		}
	}
}

func TestOnOfAnySegments(t *testing.T) {
	r := rand.New(rand.NewPCG(6, 1))
	for range 100000 {
		s := anySeg(r)
		for k := range 5 {
			got := On(s, k)
			if want := wantOn(s, k); got != want {
				t.Fatalf("On(%v, %d) = %v, want %v", s, k, got, want)
			}
			// The other way along the curve is the same curve.
			if back := On(api.Seg{A: s.C, B: s.B, C: s.A, Curve: s.Curve}, 4-k); back != got {
				t.Fatalf("On(%v, %d) = %v, but from its other end %v", s, k, got, back)
			}
			// A curve is no further out than its points, so that a higher layer's api.EdgeFar holds.
			if max(got.X, -got.X, got.Y, -got.Y) > 16*510 {
				t.Fatalf("On(%v, %d) = %v: too far", s, k, got)
			}
		}
		if On(s, 0) != p(16*s.A.X, 16*s.A.Y) || On(s, 4) != p(16*s.C.X, 16*s.C.Y) {
			t.Fatalf("%v is from %v to %v", s, On(s, 0), On(s, 4))
		}
	}
}

// For other k, and for points beyond the bounds, nothing is promised, but that On answers (W1), and the same each time (W2).
func TestOnBeyondTheBounds(t *testing.T) {
	r := rand.New(rand.NewPCG(6, 2))
	for range 20000 {
		s, k := wildSeg(r), []int{r.IntN(5), -1, 5, 6, r.Int(), -r.Int(), wild[r.IntN(len(wild))]}[r.IntN(7)]
		if first, second := On(s, k), On(s, k); first != second {
			t.Fatalf("On(%v, %d) = %v, and then %v", s, k, first, second)
		}
	}
}

// wildSeg is a segment some of whose coordinates are beyond the bounds.
func wildSeg(r *rand.Rand) api.Seg {
	s := anySeg(r)
	for _, n := range []*int{&s.A.X, &s.A.Y, &s.B.X, &s.B.Y, &s.C.X, &s.C.Y} {
		if r.IntN(2) == 0 {
			*n = wild[r.IntN(len(wild))]
		}
	}
	return s
}

// P6.2: Edges.

// checkEdges holds what Edges answers against what is wanted, and against what W6 says of its argument.
func checkEdges(t *testing.T, ss []api.Seg, want []api.Edge) {
	t.Helper()
	before := slices.Clone(ss)
	if got := Edges(ss); !slices.Equal(got, want) {
		t.Fatalf("Edges(%v) = %v, want %v", ss, got, want)
	}
	if !slices.Equal(ss, before) {
		t.Fatalf("Edges(%v) has changed its segments to %v", before, ss)
	}
}

func TestEdgesOfNoSegments(t *testing.T) {
	checkEdges(t, nil, nil)
	checkEdges(t, []api.Seg{}, nil)
}

func TestEdgesOfLines(t *testing.T) {
	for _, x := range []struct {
		s    api.Seg
		want []api.Edge
	}{
		// The chapter's example.
		{line(p(0, 0), p(1, 0)), way(p(0, 0), p(16, 0))},
		{line(p(1, 0), p(0, 0)), way(p(16, 0), p(0, 0))},
		{line(p(0, 0), p(0, -1)), way(p(0, 0), p(0, -16))},
		{line(p(3, -5), p(-7, 11)), way(p(48, -80), p(-112, 176))},
		{line(p(-510, 510), p(510, -510)), way(p(-8160, 8160), p(8160, -8160))},
		{line(p(510, 510), p(-510, -510)), way(p(8160, 8160), p(-8160, -8160))},
		// A line's B says nothing of its edge.
		{api.Seg{A: p(1, 2), B: p(30, 40), C: p(5, 6)}, way(p(16, 32), p(80, 96))},
		{api.Seg{A: p(1, 2), B: p(5, 6), C: p(5, 6)}, way(p(16, 32), p(80, 96))},
		// Without length.
		{line(p(0, 0), p(0, 0)), nil},
		{line(p(-510, 510), p(-510, 510)), nil},
		{api.Seg{A: p(4, 4), B: p(9, 9), C: p(4, 4)}, nil},
		// A line that is only upright or only level has a length.
		{line(p(4, 4), p(4, 5)), way(p(64, 64), p(64, 80))},
		{line(p(4, 4), p(5, 4)), way(p(64, 64), p(80, 64))},
	} {
		checkEdges(t, []api.Seg{x.s}, x.want)
	}
}

func TestEdgesOfCurves(t *testing.T) {
	for _, x := range []struct {
		s    api.Seg
		want []api.Edge
	}{
		{curve(p(0, 0), p(1, 0), p(1, 1)), way(p(0, 0), p(7, 1), p(12, 4), p(15, 9), p(16, 16))},
		{curve(p(1, 1), p(1, 0), p(0, 0)), way(p(16, 16), p(15, 9), p(12, 4), p(7, 1), p(0, 0))},
		{curve(p(-510, 510), p(510, 510), p(510, -510)), way(p(-8160, 8160), p(-1020, 7140), p(4080, 4080), p(7140, -1020), p(8160, -8160))},
		// A straight one has four edges all the same, and so has one that comes back to where it began.
		{curve(p(0, 0), p(2, 0), p(4, 0)), way(p(0, 0), p(16, 0), p(32, 0), p(48, 0), p(64, 0))},
		{curve(p(0, 0), p(2, 4), p(0, 0)), way(p(0, 0), p(12, 24), p(16, 32), p(12, 24), p(0, 0))},
		// A control point at one of the ends.
		{curve(p(1, 2), p(1, 2), p(5, 6)), way(p(16, 32), p(20, 36), p(32, 48), p(52, 68), p(80, 96))},
		{curve(p(1, 2), p(5, 6), p(5, 6)), way(p(16, 32), p(44, 60), p(64, 80), p(76, 92), p(80, 96))},
		// Three points that are one.
		{curve(p(0, 0), p(0, 0), p(0, 0)), nil},
		{curve(p(3, -4), p(3, -4), p(3, -4)), nil},
		{curve(p(510, -510), p(510, -510), p(510, -510)), nil},
		// One of the four edges has no length: the first, the second, the third, the last.
		{curve(p(0, 0), p(1, 0), p(-6, 0)), way(p(0, 0), p(-16, 0), p(-48, 0), p(-96, 0))},
		{curve(p(0, 0), p(3, 6), p(-2, -4)), way(p(0, 0), p(16, 32), p(0, 0), p(-32, -64))},
		{curve(p(0, 0), p(0, 5), p(0, 2)), way(p(0, 0), p(0, 32), p(0, 48), p(0, 32))},
		{curve(p(0, 0), p(7, -7), p(6, -6)), way(p(0, 0), p(48, -48), p(80, -80), p(96, -96))},
		{curve(p(102, -102), p(-510, 510), p(510, -510)), way(p(1632, -1632), p(-1632, 1632), p(1632, -1632), p(8160, -8160))},
		// An edge that has no length in X alone, or in Y alone, is none of those.
		{curve(p(0, 0), p(1, 1), p(-6, 1)), way(p(0, 0), p(0, 7), p(-16, 12), p(-48, 15), p(-96, 16))},
		{curve(p(0, 0), p(1, 3), p(1, -2)), way(p(0, 0), p(7, 16), p(12, 16), p(15, 0), p(16, -32))},
		{curve(p(5, 0), p(5, 2), p(5, 4)), way(p(80, 0), p(80, 16), p(80, 32), p(80, 48), p(80, 64))},
	} {
		checkEdges(t, []api.Seg{x.s}, x.want)
	}
}

func TestEdgesInOrder(t *testing.T) {
	side, bow := line(p(1, 1), p(0, 0)), curve(p(0, 0), p(1, 0), p(1, 1))
	sideEdges, bowEdges := way(p(16, 16), p(0, 0)), way(p(0, 0), p(7, 1), p(12, 4), p(15, 9), p(16, 16))
	point, ball := line(p(7, 7), p(7, 7)), curve(p(7, 7), p(7, 7), p(7, 7))
	for _, x := range []struct {
		ss   []api.Seg
		want []api.Edge
	}{
		{[]api.Seg{bow, side}, slices.Concat(bowEdges, sideEdges)},
		{[]api.Seg{side, bow}, slices.Concat(sideEdges, bowEdges)},
		// The same segment twice is told twice, and segments need not lead on.
		{[]api.Seg{side, side}, slices.Concat(sideEdges, sideEdges)},
		{[]api.Seg{bow, bow}, slices.Concat(bowEdges, bowEdges)},
		{[]api.Seg{side, line(p(9, 9), p(9, 8))}, slices.Concat(sideEdges, way(p(144, 144), p(144, 128)))},
		// Those without length leave no gap and end nothing.
		{[]api.Seg{point, bow, ball, side, point}, slices.Concat(bowEdges, sideEdges)},
		{[]api.Seg{ball, ball, side, point, point, bow}, slices.Concat(sideEdges, bowEdges)},
		{[]api.Seg{point, ball}, nil},
	} {
		checkEdges(t, x.ss, x.want)
	}
}

// wantEdges is P6.2, word for word, by P6.1 seen from its other side.
func wantEdges(ss []api.Seg) []api.Edge {
	var all []api.Edge
	for _, s := range ss {
		if s.Curve {
			all = append(all, way(wantOn(s, 0), wantOn(s, 1), wantOn(s, 2), wantOn(s, 3), wantOn(s, 4))...)
		} else {
			all = append(all, way(p(16*s.A.X, 16*s.A.Y), p(16*s.C.X, 16*s.C.Y))...)
		}
	}
	return slices.DeleteFunc(all, func(e api.Edge) bool { return e.A == e.B })
}

// All lines and curves of the points near 0, where edges without length are common.
func TestEdgesOfAllSmallSegments(t *testing.T) {
	var points []api.Point
	for x := -3; x <= 3; x++ {
		for y := -3; y <= 3; y++ {
			points = append(points, p(x, y))
		}
	}
	counts := map[int]int{}
	for _, a := range points {
		for _, b := range points {
			for _, c := range points {
				l, s := []api.Seg{{A: a, B: b, C: c}}, []api.Seg{curve(a, b, c)}
				checkEdges(t, l, wantEdges(l))
				checkEdges(t, s, wantEdges(s))
				counts[len(wantEdges(s))]++
			}
		}
	}
	// Otherwise the curves above would hold Edges to nothing of those without length.
	if counts[0] == 0 || counts[3] == 0 || counts[4] == 0 {
		t.Errorf("so many curves have 0, 3 and 4 edges: %v", counts)
	}
}

func TestEdgesOfAnySegments(t *testing.T) {
	r := rand.New(rand.NewPCG(6, 3))
	for k := range 20000 {
		ss := anySegs(r, 20)
		if k%400 == 0 {
			ss = anySegs(r, 5000)
		}
		checkEdges(t, ss, wantEdges(ss))
	}
}

// For points beyond the bounds nothing is promised, but that Edges, All and Box answer (W1) and leave their arguments alone (W6).
func TestEdgesBeyondTheBounds(t *testing.T) {
	r := rand.New(rand.NewPCG(6, 4))
	for range 5000 {
		ss := make([]api.Seg, r.IntN(20))
		for k := range ss {
			ss[k] = wildSeg(r)
		}
		before := slices.Clone(ss)
		Box(Edges(ss))
		Box(All([][]api.Seg{ss, nil, ss}))
		if !slices.Equal(ss, before) {
			t.Fatalf("%v has become %v", before, ss)
		}
	}
}

// What Edges and All answer has memory of its own (W6): neither another answer nor the argument is to be seen in it.
func TestEdgesAnswerNewMemory(t *testing.T) {
	ss := []api.Seg{line(p(1, 1), p(0, 0)), curve(p(0, 0), p(1, 0), p(1, 1))}
	answers := [][]api.Edge{Edges(ss), Edges(ss), All([][]api.Seg{ss}), All([][]api.Seg{ss}), All([][]api.Seg{nil, ss})}
	want := wantEdges(ss)
	clear(ss)
	for k, got := range answers {
		if !slices.Equal(got, want) {
			t.Errorf("%d: the edges have become %v, from %v", k, got, want)
		}
		_ = append(got, api.Edge{})
		clear(got)
	}
}

// P6.2: All.

func TestAllExamples(t *testing.T) {
	side, bow := line(p(1, 1), p(0, 0)), curve(p(0, 0), p(1, 0), p(1, 1))
	sideEdges, bowEdges := way(p(16, 16), p(0, 0)), way(p(0, 0), p(7, 1), p(12, 4), p(15, 9), p(16, 16))
	point := line(p(7, 7), p(7, 7))
	for k, x := range []struct {
		cs   [][]api.Seg
		want []api.Edge
	}{
		{nil, nil},
		{[][]api.Seg{}, nil},
		// Contours without segments, or without edges, alone, between others, and ahead of and behind them.
		{[][]api.Seg{nil}, nil},
		{[][]api.Seg{{}, nil, {}}, nil},
		{[][]api.Seg{{point}}, nil},
		{[][]api.Seg{{side}, nil, {bow}}, slices.Concat(sideEdges, bowEdges)},
		{[][]api.Seg{{side}, {}, {point}, nil, {bow}}, slices.Concat(sideEdges, bowEdges)},
		{[][]api.Seg{nil, {}, {bow, side}, {}, nil}, slices.Concat(bowEdges, sideEdges)},
		// One contour, and several, in their order; the same one twice is told twice.
		{[][]api.Seg{{bow, side}}, slices.Concat(bowEdges, sideEdges)},
		{[][]api.Seg{{bow}, {side}}, slices.Concat(bowEdges, sideEdges)},
		{[][]api.Seg{{side}, {bow, side}, {bow}}, slices.Concat(sideEdges, bowEdges, sideEdges, bowEdges)},
		{[][]api.Seg{{bow, side}, {bow, side}}, slices.Concat(bowEdges, sideEdges, bowEdges, sideEdges)},
	} {
		if got := All(x.cs); !slices.Equal(got, x.want) {
			t.Errorf("%d: All(%v) = %v, want %v", k, x.cs, got, x.want)
		}
	}
}

func TestAllOfAnyContours(t *testing.T) {
	r := rand.New(rand.NewPCG(6, 5))
	for range 5000 {
		// More contours than an outline may have are no reason for another answer.
		cs := make([][]api.Seg, r.IntN(12))
		var before [][]api.Seg
		var want []api.Edge
		for k := range cs {
			if r.IntN(4) > 0 {
				cs[k] = anySegs(r, 20)
			}
			before = append(before, slices.Clone(cs[k]))
			want = append(want, wantEdges(cs[k])...)
		}
		if got := All(cs); !slices.Equal(got, want) {
			t.Fatalf("All(%v) = %v, want %v", cs, got, want)
		}
		if !slices.EqualFunc(cs, before, slices.Equal[[]api.Seg]) {
			t.Fatalf("All has changed its contours from %v to %v", before, cs)
		}
	}
}

// P6.2: Box.

// checkBox holds what Box answers against what is wanted, and against what W6 says of its argument.
func checkBox(t *testing.T, es []api.Edge, least, greatest api.Point) {
	t.Helper()
	before := slices.Clone(es)
	if lo, hi := Box(es); lo != least || hi != greatest {
		t.Fatalf("Box(%v) = %v, %v, want %v, %v", es, lo, hi, least, greatest)
	}
	if !slices.Equal(es, before) {
		t.Fatalf("Box has changed its edges from %v to %v", before, es)
	}
}

func TestBoxExamples(t *testing.T) {
	edge := func(a, b api.Point) api.Edge { return api.Edge{A: a, B: b} }
	for _, x := range []struct {
		es              []api.Edge
		least, greatest api.Point
	}{
		{nil, p(0, 0), p(0, 0)},
		{[]api.Edge{}, p(0, 0), p(0, 0)},
		// One edge, in all four ways from corner to corner; level, upright, and without length.
		{[]api.Edge{edge(p(1, 2), p(3, 5))}, p(1, 2), p(3, 5)},
		{[]api.Edge{edge(p(3, 5), p(1, 2))}, p(1, 2), p(3, 5)},
		{[]api.Edge{edge(p(1, 5), p(3, 2))}, p(1, 2), p(3, 5)},
		{[]api.Edge{edge(p(3, 2), p(1, 5))}, p(1, 2), p(3, 5)},
		{[]api.Edge{edge(p(1, 2), p(3, 2))}, p(1, 2), p(3, 2)},
		{[]api.Edge{edge(p(1, 5), p(1, 2))}, p(1, 2), p(1, 5)},
		{[]api.Edge{edge(p(4, 7), p(4, 7))}, p(4, 7), p(4, 7)},
		// A place in which the zero point is not, on all its four sides.
		{[]api.Edge{edge(p(-3, -5), p(-1, -2))}, p(-3, -5), p(-1, -2)},
		{[]api.Edge{edge(p(-3, 5), p(-1, 2))}, p(-3, 2), p(-1, 5)},
		{[]api.Edge{edge(p(3, -5), p(1, -2)), edge(p(2, -3), p(2, -4))}, p(1, -5), p(3, -2)},
		// The four are of different ends, of different edges, in whatever order.
		{[]api.Edge{edge(p(-9, 1), p(0, -8)), edge(p(7, 0), p(1, 6))}, p(-9, -8), p(7, 6)},
		{[]api.Edge{edge(p(0, 0), p(0, 6)), edge(p(7, 0), p(0, 0)), edge(p(0, -8), p(0, 0)), edge(p(0, 0), p(-9, 0))}, p(-9, -8), p(7, 6)},
		{[]api.Edge{edge(p(0, 0), p(-9, 0)), edge(p(0, 0), p(0, -8)), edge(p(0, 6), p(0, 0)), edge(p(7, 0), p(0, 0))}, p(-9, -8), p(7, 6)},
		// Edges of outlines at their bounds, and any other numbers.
		{[]api.Edge{edge(p(-8160, 8160), p(8160, 0)), edge(p(8160, 0), p(0, -8160))}, p(-8160, -8160), p(8160, 8160)},
		{[]api.Edge{edge(p(math.MaxInt, math.MinInt), p(math.MinInt, math.MaxInt))}, p(math.MinInt, math.MinInt), p(math.MaxInt, math.MaxInt)},
		{[]api.Edge{edge(p(math.MaxInt, math.MinInt), p(math.MaxInt-1, math.MinInt+1))}, p(math.MaxInt-1, math.MinInt), p(math.MaxInt, math.MinInt+1)},
	} {
		checkBox(t, x.es, x.least, x.greatest)
	}
}

// One end of one edge reaches out of the others' box, on each side, whichever end and edge it is.
func TestBoxOfEachEnd(t *testing.T) {
	for n := 1; n <= 4; n++ {
		for k := range n {
			for _, out := range []api.Point{p(1, 5), p(9, 5), p(5, 1), p(5, 9)} {
				atA, atB := make([]api.Edge, n), make([]api.Edge, n)
				for j := range n {
					atA[j], atB[j] = api.Edge{A: p(5, 5), B: p(5, 5)}, api.Edge{A: p(5, 5), B: p(5, 5)}
				}
				atA[k].A, atB[k].B = out, out
				least, greatest := p(min(5, out.X), min(5, out.Y)), p(max(5, out.X), max(5, out.Y))
				checkBox(t, atA, least, greatest)
				checkBox(t, atB, least, greatest)
			}
		}
	}
}

func TestBoxOfAnyEdges(t *testing.T) {
	r := rand.New(rand.NewPCG(6, 6))
	far := slices.Concat(wild, []int{0, 1, -1, 8160, -8160})
	for k := range 50000 {
		anyNumber := func() int { return r.IntN(21) - r.IntN(41) + k%40 }
		if k%2 == 0 {
			anyNumber = func() int { return far[r.IntN(len(far))] }
		}
		es := make([]api.Edge, 1+r.IntN(8))
		var xs, ys []int
		for k := range es {
			es[k] = api.Edge{A: p(anyNumber(), anyNumber()), B: p(anyNumber(), anyNumber())}
			xs = append(xs, es[k].A.X, es[k].B.X)
			ys = append(ys, es[k].A.Y, es[k].B.Y)
		}
		checkBox(t, es, p(slices.Min(xs), slices.Min(ys)), p(slices.Max(xs), slices.Max(ys)))
	}
}
