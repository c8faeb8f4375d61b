package path

import (
	"math"
	"math/rand/v2"
	"slices"
	"testing"

	"punchcut/api"
)

func on(x, y int) api.Vertex { return api.Vertex{X: x, Y: y, On: true} }

func off(x, y int) api.Vertex { return api.Vertex{X: x, Y: y} }

func p(x, y int) api.Point { return api.Point{X: x, Y: y} }

// line is a line as P5.1 has it: B is equal to A.
func line(a, c api.Point) api.Seg { return api.Seg{A: a, B: a, C: c} }

func curve(a, b, c api.Point) api.Seg { return api.Seg{A: a, B: b, C: c, Curve: true} }

func sameAll(a, b [][]api.Seg) bool { return slices.EqualFunc(a, b, slices.Equal[[]api.Seg]) }

// P5.1: Segs.

// checkSegs holds what Segs answers against what is wanted, and against what W6 says of its argument.
func checkSegs(t *testing.T, c []api.Vertex, want []api.Seg) {
	t.Helper()
	before := slices.Clone(c)
	got := Segs(c)
	if !slices.Equal(got, want) {
		t.Fatalf("Segs(%v) = %v, want %v", c, got, want)
	}
	if !slices.Equal(c, before) {
		t.Fatalf("Segs(%v) has changed its contour to %v", before, c)
	}
	if !Closed(got) {
		t.Fatalf("Segs(%v) = %v: not closed", c, got)
	}
}

func TestSegsOfEmptyContour(t *testing.T) {
	checkSegs(t, nil, nil)
	checkSegs(t, []api.Vertex{}, nil)
}

func TestSegsOfOneVertex(t *testing.T) {
	for _, n := range []int{-255, -254, -1, 0, 1, 3, 254, 255} {
		for _, m := range []int{-255, 0, 7, 255} {
			at := p(2*n, 2*m)
			checkSegs(t, []api.Vertex{on(n, m)}, []api.Seg{line(at, at)})
			checkSegs(t, []api.Vertex{off(n, m)}, []api.Seg{curve(at, at, at)})
		}
	}
}

func TestSegsOfLines(t *testing.T) {
	for _, x := range []struct {
		c    []api.Vertex
		want []api.Seg
	}{
		// The chapter's example.
		{[]api.Vertex{on(0, 0), on(10, 0), on(3, 7)}, []api.Seg{line(p(0, 0), p(20, 0)), line(p(20, 0), p(6, 14)), line(p(6, 14), p(0, 0))}},
		{[]api.Vertex{on(1, 2), on(-3, 5)}, []api.Seg{line(p(2, 4), p(-6, 10)), line(p(-6, 10), p(2, 4))}},
		{
			[]api.Vertex{on(-255, -255), on(255, -255), on(255, 255), on(-255, 255)},
			[]api.Seg{line(p(-510, -510), p(510, -510)), line(p(510, -510), p(510, 510)), line(p(510, 510), p(-510, 510)), line(p(-510, 510), p(-510, -510))},
		},
		// The last line has length 0, since the contour comes back to its beginning by itself.
		{[]api.Vertex{on(1, 1), on(4, 1), on(1, 1)}, []api.Seg{line(p(2, 2), p(8, 2)), line(p(8, 2), p(2, 2)), line(p(2, 2), p(2, 2))}},
		{[]api.Vertex{on(9, 9), on(9, 9)}, []api.Seg{line(p(18, 18), p(18, 18)), line(p(18, 18), p(18, 18))}},
	} {
		checkSegs(t, x.c, x.want)
	}
}

func TestSegsOfCurves(t *testing.T) {
	for _, x := range []struct {
		c    []api.Vertex
		want []api.Seg
	}{
		// One control point, between two vertices on the curve and behind the last one.
		{[]api.Vertex{on(0, 0), off(5, 8), on(10, 0)}, []api.Seg{curve(p(0, 0), p(10, 16), p(20, 0)), line(p(20, 0), p(0, 0))}},
		{[]api.Vertex{on(0, 0), on(10, 0), off(5, 8)}, []api.Seg{line(p(0, 0), p(20, 0)), curve(p(20, 0), p(10, 16), p(0, 0))}},
		{[]api.Vertex{on(1, 2), off(3, 4)}, []api.Seg{curve(p(2, 4), p(6, 8), p(2, 4))}},
		// A control point at the segment's beginning or end still makes it a curve.
		{[]api.Vertex{on(1, 2), off(1, 2), on(5, 5)}, []api.Seg{curve(p(2, 4), p(2, 4), p(10, 10)), line(p(10, 10), p(2, 4))}},
		{[]api.Vertex{on(1, 2), off(1, 2)}, []api.Seg{curve(p(2, 4), p(2, 4), p(2, 4))}},
		{[]api.Vertex{on(0, 0), off(0, 0), on(0, 0)}, []api.Seg{curve(p(0, 0), p(0, 0), p(0, 0)), line(p(0, 0), p(0, 0))}},
		// A last line of length 0 behind a curve.
		{[]api.Vertex{on(0, 0), off(4, 4), on(0, 0)}, []api.Seg{curve(p(0, 0), p(8, 8), p(0, 0)), line(p(0, 0), p(0, 0))}},
		// Two and three control points in a row; midpoints with odd half units.
		{[]api.Vertex{on(0, 0), off(1, 5), off(4, 6), on(8, 0)}, []api.Seg{curve(p(0, 0), p(2, 10), p(5, 11)), curve(p(5, 11), p(8, 12), p(16, 0)), line(p(16, 0), p(0, 0))}},
		{
			[]api.Vertex{on(0, 0), off(1, 5), off(4, 6), off(-9, -2), on(8, 0)},
			[]api.Seg{curve(p(0, 0), p(2, 10), p(5, 11)), curve(p(5, 11), p(8, 12), p(-5, 4)), curve(p(-5, 4), p(-18, -4), p(16, 0)), line(p(16, 0), p(0, 0))},
		},
		{[]api.Vertex{on(0, 0), off(1, 5), off(4, 6)}, []api.Seg{curve(p(0, 0), p(2, 10), p(5, 11)), curve(p(5, 11), p(8, 12), p(0, 0))}},
		// The same control point twice: its midpoint with itself is its own point.
		{[]api.Vertex{on(0, 0), off(3, 3), off(3, 3)}, []api.Seg{curve(p(0, 0), p(6, 6), p(6, 6)), curve(p(6, 6), p(6, 6), p(0, 0))}},
		{
			[]api.Vertex{on(-255, 255), off(255, 255), off(255, -255), off(-254, -255)},
			[]api.Seg{curve(p(-510, 510), p(510, 510), p(510, 0)), curve(p(510, 0), p(510, -510), p(1, -510)), curve(p(1, -510), p(-508, -510), p(-510, 510))},
		},
		// Behind a curve comes a line again.
		{[]api.Vertex{on(0, 0), off(2, 2), on(4, 0), on(4, -4), off(2, -6), on(0, -4)}, []api.Seg{curve(p(0, 0), p(4, 4), p(8, 0)), line(p(8, 0), p(8, -8)), curve(p(8, -8), p(4, -12), p(0, -8)), line(p(0, -8), p(0, 0))}},
	} {
		checkSegs(t, x.c, x.want)
	}
}

func TestSegsFromALaterVertex(t *testing.T) {
	for _, x := range []struct {
		c    []api.Vertex
		want []api.Seg
	}{
		{[]api.Vertex{off(5, 8), on(0, 0)}, []api.Seg{curve(p(0, 0), p(10, 16), p(0, 0))}},
		{[]api.Vertex{off(5, 8), on(10, 0), on(0, 0)}, []api.Seg{line(p(20, 0), p(0, 0)), curve(p(0, 0), p(10, 16), p(20, 0))}},
		// The first one on the curve, not the last one.
		{[]api.Vertex{off(5, 8), on(10, 0), on(3, 3), on(0, 0)}, []api.Seg{line(p(20, 0), p(6, 6)), line(p(6, 6), p(0, 0)), curve(p(0, 0), p(10, 16), p(20, 0))}},
		// Two and three control points in a row across the contour's end.
		{[]api.Vertex{off(1, 5), on(8, 0), on(0, 0), off(4, 6)}, []api.Seg{line(p(16, 0), p(0, 0)), curve(p(0, 0), p(8, 12), p(5, 11)), curve(p(5, 11), p(2, 10), p(16, 0))}},
		{[]api.Vertex{off(1, 5), off(4, 6), on(8, 0)}, []api.Seg{curve(p(16, 0), p(2, 10), p(5, 11)), curve(p(5, 11), p(8, 12), p(16, 0))}},
		{[]api.Vertex{off(1, 5), off(4, 6), on(8, 0), off(-3, -4)}, []api.Seg{curve(p(16, 0), p(-6, -8), p(-2, 1)), curve(p(-2, 1), p(2, 10), p(5, 11)), curve(p(5, 11), p(8, 12), p(16, 0))}},
		{[]api.Vertex{off(1, 5), on(8, 0), off(-3, -4), off(4, 6)}, []api.Seg{curve(p(16, 0), p(-6, -8), p(1, 2)), curve(p(1, 2), p(8, 12), p(5, 11)), curve(p(5, 11), p(2, 10), p(16, 0))}},
		{[]api.Vertex{off(255, 255), on(-255, -255), off(-255, 255)}, []api.Seg{curve(p(-510, -510), p(-510, 510), p(0, 510)), curve(p(0, 510), p(510, 510), p(-510, -510))}},
	} {
		checkSegs(t, x.c, x.want)
	}
}

func TestSegsWithoutAVertexOnTheCurve(t *testing.T) {
	for _, x := range []struct {
		c    []api.Vertex
		want []api.Seg
	}{
		{[]api.Vertex{off(1, 2), off(4, 8)}, []api.Seg{curve(p(5, 10), p(2, 4), p(5, 10)), curve(p(5, 10), p(8, 16), p(5, 10))}},
		{[]api.Vertex{off(0, 0), off(4, 0), off(4, 5)}, []api.Seg{curve(p(4, 5), p(0, 0), p(4, 0)), curve(p(4, 0), p(8, 0), p(8, 5)), curve(p(8, 5), p(8, 10), p(4, 5))}},
		{
			[]api.Vertex{off(255, 255), off(-255, 255), off(-255, -255), off(255, -255)},
			[]api.Seg{curve(p(510, 0), p(510, 510), p(0, 510)), curve(p(0, 510), p(-510, 510), p(-510, 0)), curve(p(-510, 0), p(-510, -510), p(0, -510)), curve(p(0, -510), p(510, -510), p(510, 0))},
		},
		{[]api.Vertex{off(7, 7), off(7, 7)}, []api.Seg{curve(p(14, 14), p(14, 14), p(14, 14)), curve(p(14, 14), p(14, 14), p(14, 14))}},
	} {
		checkSegs(t, x.c, x.want)
	}
}

// place is where a contour passes, or what pulls at it there.
type place struct {
	at    api.Point
	pulls bool
}

// wantSegs is P5.1 seen from its other side: midpoints are put between all control points that are neighbours, the ring of places is turned to its beginning, and then read from one place on the curve to the next.
func wantSegs(c []api.Vertex) []api.Seg {
	var ring []place
	begin := -1
	for k, v := range c {
		before := c[(k+len(c)-1)%len(c)]
		if !v.On && !before.On {
			ring = append(ring, place{at: p(before.X+v.X, before.Y+v.Y)})
		}
		if v.On && begin < 0 {
			begin = len(ring)
		}
		ring = append(ring, place{at: p(2*v.X, 2*v.Y), pulls: !v.On})
	}
	// Without a vertex on the curve the ring begins at the midpoint of the last and the first one already.
	begin = max(begin, 0)
	ring = append(slices.Clone(ring[begin:]), ring[:begin]...)
	var segs []api.Seg
	for k := 0; k < len(ring); {
		next, after := ring[(k+1)%len(ring)], ring[(k+2)%len(ring)]
		if next.pulls {
			segs = append(segs, curve(ring[k].at, next.at, after.at))
			k += 2
		} else {
			segs = append(segs, line(ring[k].at, next.at))
			k++
		}
	}
	return segs
}

// All ways in which the vertices of a contour can be on the curve or not.
func TestSegsOfAllPatterns(t *testing.T) {
	for n := range 12 {
		for pattern := range 1 << n {
			c := make([]api.Vertex, n)
			for k := range c {
				c[k] = api.Vertex{X: k*k - 50, Y: 7*k - 255, On: pattern>>k&1 == 1}
			}
			checkSegs(t, c, wantSegs(c))
		}
	}
}

// anyCoord is a coordinate that is at a bound, or near 0, or anywhere.
func anyCoord(r *rand.Rand) int {
	switch r.IntN(3) {
	case 0:
		return r.IntN(5) - 2
	case 1:
		return []int{-255, -254, 254, 255}[r.IntN(4)]
	}
	return r.IntN(511) - 255
}

// anyContour is a contour of up to so many vertices; some have few vertices on the curve, or many, or many equal ones.
func anyContour(r *rand.Rand, most int) []api.Vertex {
	c := make([]api.Vertex, r.IntN(most+1))
	onOfTen, same := r.IntN(11), r.IntN(4) == 0
	for k := range c {
		c[k] = api.Vertex{X: anyCoord(r), Y: anyCoord(r), On: r.IntN(10) < onOfTen}
		if same && k > 0 && r.IntN(2) == 0 {
			c[k].X, c[k].Y = c[k-1].X, c[k-1].Y
		}
	}
	return c
}

func TestSegsOfAnyContours(t *testing.T) {
	r := rand.New(rand.NewPCG(5, 1))
	for k := range 20000 {
		c := anyContour(r, 64)
		if k%400 == 0 {
			c = anyContour(r, 5000)
		}
		checkSegs(t, c, wantSegs(c))
	}
}

// For coordinates beyond the bounds nothing is promised, but that Segs and All answer (W1) and leave their arguments alone (W6).
func TestSegsBeyondTheBounds(t *testing.T) {
	wild := []int{-256, 256, 1 << 40, math.MaxInt, math.MinInt, math.MaxInt - 1, math.MinInt + 1}
	r := rand.New(rand.NewPCG(5, 2))
	for range 2000 {
		c := anyContour(r, 20)
		for k := range c {
			if r.IntN(2) == 0 {
				c[k].X = wild[r.IntN(len(wild))]
			}
			if r.IntN(2) == 0 {
				c[k].Y = wild[r.IntN(len(wild))]
			}
		}
		before := slices.Clone(c)
		Closed(Segs(c))
		All(api.Outline{Contours: [][]api.Vertex{c, nil, c}})
		if !slices.Equal(c, before) {
			t.Fatalf("%v has become %v", before, c)
		}
	}
}

// What Segs answers has memory of its own, and it does not write behind the end of its argument (W6).
func TestSegsAnswersNewMemory(t *testing.T) {
	behind := []api.Vertex{off(1, 5), on(8, 0), off(4, 6), on(77, 77), off(77, 77)}
	c := behind[:3]
	before := slices.Clone(behind)
	first, second := Segs(c), Segs(c)
	if !slices.Equal(behind, before) {
		t.Errorf("%v has become %v", before, behind)
	}
	want := slices.Clone(second)
	clear(first)
	clear(behind)
	if !slices.Equal(second, want) {
		t.Errorf("the segments have become %v, from %v", second, want)
	}
}

// P5.2: All.

func TestAllExamples(t *testing.T) {
	for k, x := range []struct {
		contours [][]api.Vertex
		want     [][]api.Seg
	}{
		{nil, nil},
		{[][]api.Vertex{}, nil},
		{[][]api.Vertex{{on(1, 2)}}, [][]api.Seg{{line(p(2, 4), p(2, 4))}}},
		{[][]api.Vertex{{on(1, 2)}, {off(3, 4)}}, [][]api.Seg{{line(p(2, 4), p(2, 4))}, {curve(p(6, 8), p(6, 8), p(6, 8))}}},
		{[][]api.Vertex{{off(3, 4)}, {on(1, 2)}}, [][]api.Seg{{curve(p(6, 8), p(6, 8), p(6, 8))}, {line(p(2, 4), p(2, 4))}}},
		// The same contour twice is told twice.
		{[][]api.Vertex{{on(1, 2)}, {on(1, 2)}}, [][]api.Seg{{line(p(2, 4), p(2, 4))}, {line(p(2, 4), p(2, 4))}}},
		// An empty contour has its place among the others.
		{[][]api.Vertex{nil}, [][]api.Seg{nil}},
		{[][]api.Vertex{{}, {on(1, 2)}, nil}, [][]api.Seg{nil, {line(p(2, 4), p(2, 4))}, nil}},
	} {
		if got := All(api.Outline{Contours: x.contours}); !sameAll(got, x.want) {
			t.Errorf("%d: All(%v) = %v, want %v", k, x.contours, got, x.want)
		}
	}
}

func TestAllOfAnyOutlines(t *testing.T) {
	r := rand.New(rand.NewPCG(5, 3))
	for range 3000 {
		// More contours and vertices than an outline may have are no reason for another answer.
		o := api.Outline{Contours: make([][]api.Vertex, r.IntN(12))}
		var before [][]api.Vertex
		var want [][]api.Seg
		for k := range o.Contours {
			o.Contours[k] = anyContour(r, 20)
			before = append(before, slices.Clone(o.Contours[k]))
			want = append(want, wantSegs(o.Contours[k]))
		}
		if got := All(o); !sameAll(got, want) {
			t.Fatalf("All(%v) = %v, want %v", o, got, want)
		}
		if !slices.EqualFunc(o.Contours, before, slices.Equal[[]api.Vertex]) {
			t.Fatalf("All has changed its outline from %v to %v", before, o)
		}
	}
}

// The lists of All's answer have memory of their own (W6): who appends to one or changes it leaves the others as they are.
func TestAllAnswersNewMemory(t *testing.T) {
	c := []api.Vertex{on(1, 2), off(3, 4), on(5, 5)}
	all := All(api.Outline{Contours: [][]api.Vertex{c, c, c}})
	want := slices.Clone(all[1])
	// One more only: more of them would get new memory even where the lists share theirs.
	_ = append(all[0], api.Seg{})
	clear(all[0])
	clear(all[2])
	clear(c)
	if !slices.Equal(all[1], want) {
		t.Errorf("the segments have become %v, from %v", all[1], want)
	}
}

// P5.2: Closed.

func TestClosed(t *testing.T) {
	a, b, c, d := p(0, 0), p(4, 0), p(4, 4), p(0, 4)
	far, low := p(math.MaxInt, math.MinInt), p(math.MinInt, math.MaxInt)
	for k, ss := range [][]api.Seg{
		nil,
		{},
		{{}},
		{line(b, b)},
		{curve(a, c, a)},
		{line(a, b), line(b, a)},
		{line(a, b), curve(b, d, c), line(c, a)},
		{line(a, b), line(b, c), line(c, d), line(d, a)},
		{line(a, a), line(a, b), line(b, b), line(b, a)},
		// Control points and kinds don't count, nor what P5.1 asks of them.
		{{A: a, B: far, C: b}, {A: b, B: d, C: a}},
		{curve(a, far, b), {A: b, B: low, C: a}},
		{line(far, low), line(low, far)},
	} {
		if !Closed(ss) {
			t.Errorf("%d: Closed(%v) = false", k, ss)
		}
	}
	for k, ss := range [][]api.Seg{
		{line(a, b)},
		{line(b, a)},
		{curve(a, b, c)},
		{{A: a, B: b, C: b}},
		{{C: p(1, 0)}},
		{{C: p(0, 1)}},
		{{C: p(0, -1)}},
		{line(a, b), line(b, c)},
		{line(a, b), line(c, a)},
		{line(a, a), line(b, b)},
		// Two segments that are closed each, or both at once backwards, do not lead on.
		{curve(a, c, a), curve(b, d, b)},
		{line(a, b), line(a, b)},
		{line(b, a), line(c, b), line(a, c)},
		{line(far, low), line(low, low)},
		{line(far, p(math.MaxInt, math.MinInt+1))},
		{line(p(1<<32, 0), p(0, 0))},
	} {
		if Closed(ss) {
			t.Errorf("%d: Closed(%v) = true", k, ss)
		}
	}
}

// A ring of segments is closed from whichever one it is told; moving one end of any of them by 1, in X or in Y, breaks it.
func TestClosedAtEachSegment(t *testing.T) {
	corners := []api.Point{p(0, 0), p(9, 0), p(9, 9), p(0, 9), p(-5, 5)}
	for n := 1; n <= len(corners); n++ {
		ring := make([]api.Seg, n)
		for k := range ring {
			ring[k] = line(corners[k], corners[(k+1)%n])
		}
		for k := range ring {
			if turned := slices.Concat(ring[k:], ring[:k]); !Closed(turned) {
				t.Errorf("Closed(%v) = false", turned)
			}
			for _, by := range []api.Point{p(1, 0), p(-1, 0), p(0, 1), p(0, -1), p(1<<32, 0), p(0, math.MinInt)} {
				start, end := slices.Clone(ring), slices.Clone(ring)
				start[k].A = p(ring[k].A.X+by.X, ring[k].A.Y+by.Y)
				end[k].C = p(ring[k].C.X+by.X, ring[k].C.Y+by.Y)
				if Closed(start) {
					t.Errorf("Closed(%v) = true", start)
				}
				if Closed(end) {
					t.Errorf("Closed(%v) = true", end)
				}
			}
		}
	}
}

// wantClosed is P5.2, word for word.
func wantClosed(ss []api.Seg) bool {
	for k := 1; k < len(ss); k++ {
		if ss[k-1].C.X != ss[k].A.X || ss[k-1].C.Y != ss[k].A.Y {
			return false
		}
	}
	return len(ss) == 0 || ss[len(ss)-1].C.X == ss[0].A.X && ss[len(ss)-1].C.Y == ss[0].A.Y
}

func TestClosedOfAnySegments(t *testing.T) {
	r := rand.New(rand.NewPCG(5, 4))
	numbers := []int{0, 0, 0, 1, -1, 510, math.MaxInt, math.MinInt}
	anyPoint := func() api.Point { return p(numbers[r.IntN(len(numbers))], numbers[r.IntN(3)]) }
	closed := 0
	for range 50000 {
		ss := make([]api.Seg, r.IntN(6))
		for k := range ss {
			ss[k] = api.Seg{A: anyPoint(), B: anyPoint(), C: anyPoint(), Curve: r.IntN(2) == 0}
			if k > 0 && r.IntN(5) > 0 {
				ss[k].A = ss[k-1].C
			}
		}
		before := slices.Clone(ss)
		if got, want := Closed(ss), wantClosed(ss); got != want {
			t.Fatalf("Closed(%v) = %v, want %v", ss, got, want)
		}
		if !slices.Equal(ss, before) {
			t.Fatalf("Closed has changed its segments from %v to %v", before, ss)
		}
		if len(ss) > 0 && wantClosed(ss) {
			closed++
		}
	}
	// Otherwise the segments above would hold Closed to one answer alone.
	if closed < 1000 || closed > 40000 {
		t.Errorf("%d of them are closed", closed)
	}
}
