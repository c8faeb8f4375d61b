package sdf

import (
	"bytes"
	"math"
	"math/rand/v2"
	"slices"
	"testing"

	"punchcut/api"
	"punchcut/dist"
)

func at(x, y int) api.Point { return api.Point{X: x, Y: y} }

// ring is the edges from each point to the next one, and from the last one to the first.
func ring(points ...api.Point) []api.Edge {
	var es []api.Edge
	for k, a := range points {
		es = append(es, api.Edge{A: a, B: points[(k+1)%len(points)]})
	}
	return es
}

// square is a counterclockwise ring, in units.
func square(least, greatest int) []api.Edge {
	least, greatest = least*api.Unit, greatest*api.Unit
	return ring(at(least, least), at(greatest, least), at(greatest, greatest), at(least, greatest))
}

// back is the edges the other way round.
func back(es []api.Edge) []api.Edge {
	turned := make([]api.Edge, len(es))
	for k, e := range es {
		turned[len(es)-1-k] = api.Edge{A: e.B, B: e.A}
	}
	return turned
}

// single is a grid of one texel.
func single(x, y, pitch, spread int) api.Grid {
	return api.Grid{X: x, Y: y, Pitch: pitch, W: 1, H: 1, Spread: spread}
}

// noEdges are the ways to have none.
func noEdges() [][]api.Edge {
	return [][]api.Edge{nil, {}, square(0, 9)[:0]}
}

// ones is the texels of a field without edges.
func ones(n int) []byte { return bytes.Repeat([]byte{1}, n) }

// part is one number of a grid, with the bounds and the error of P9.1.
type part struct {
	of              func(g *api.Grid) *int
	least, greatest int
	errno           api.Errno
}

func parts() []part {
	return []part{
		{func(g *api.Grid) *int { return &g.W }, 1, 24, api.ErrSize},
		{func(g *api.Grid) *int { return &g.H }, 1, 24, api.ErrSize},
		{func(g *api.Grid) *int { return &g.X }, -255, 255, api.ErrArgument},
		{func(g *api.Grid) *int { return &g.Y }, -255, 255, api.ErrArgument},
		{func(g *api.Grid) *int { return &g.Pitch }, 1, 16, api.ErrArgument},
		{func(g *api.Grid) *int { return &g.Spread }, 1, 64, api.ErrArgument},
	}
}

// wrong are numbers that a part may not be.
func (p part) wrong() []int {
	return []int{p.least - 1, p.greatest + 1, math.MinInt, -1 << 32, 1 << 32, 1 << 62, math.MaxInt}
}

// validGrid is any grid of which nothing is wrong.
func validGrid(r *rand.Rand) api.Grid {
	var g api.Grid
	for _, p := range parts() {
		*p.of(&g) = p.least + r.IntN(p.greatest-p.least+1)
	}
	return g
}

// wild are numbers of any kind: small ones, ones at the bounds of an int and of powers of 2, and random ones.
func wild(r *rand.Rand) int {
	switch r.IntN(4) {
	case 0:
		return r.IntN(60) - 30
	case 1:
		return r.IntN(1<<17) - 1<<16
	case 2:
		return 1<<r.IntN(64) + r.IntN(3) - 1
	}
	return int(r.Uint64())
}

// wantTexel is P10.1: the sign and the distance are those of layer 8, which has tests of its own; the centre and the value are worked out anew.
func wantTexel(es []api.Edge, g api.Grid, i, k int) byte {
	if len(es) == 0 {
		return 1
	}
	p := at(32*g.X+16*g.Pitch*(2*i+1), 32*g.Y+16*g.Pitch*(2*k+1))
	step := min(127, dist.Eight(es, p)*127/(256*g.Spread))
	return byte(128 + dist.Sign(es, p)*step)
}

// check holds all three functions, for a valid grid, against P10.1, P10.2 and W6.
func check(t *testing.T, es []api.Edge, g api.Grid) {
	t.Helper()
	before := slices.Clone(es)
	var want []byte
	for k := range g.H {
		var row []byte
		for i := range g.W {
			row = append(row, wantTexel(es, g, i, k))
			if got := Texel(es, g, i, k); got != row[i] {
				t.Fatalf("Texel(%v, %+v, %d, %d) = %d, want %d", es, g, i, k, got, row[i])
			}
		}
		if got := Row(es, g, k); !bytes.Equal(got, row) {
			t.Fatalf("Row(%v, %+v, %d) = %v, want %v", es, g, k, got, row)
		}
		want = append(want, row...)
	}
	f, errno := Make(es, g)
	if errno != 0 || f.W != g.W || f.H != g.H || !bytes.Equal(f.Text, want) {
		t.Fatalf("Make(%v, %+v) = %v, %d, want %v", es, g, f, errno, want)
	}
	if !slices.Equal(es, before) {
		t.Fatalf("the edges %v have become %v", before, es)
	}
}

// checkField is check, with the texels of the field written out.
func checkField(t *testing.T, es []api.Edge, g api.Grid, want ...byte) {
	t.Helper()
	f, errno := Make(es, g)
	if errno != 0 || f.W != g.W || f.H != g.H || !bytes.Equal(f.Text, want) {
		t.Errorf("Make(%v, %+v) = %v, %d, want %v", es, g, f, errno, want)
	}
	check(t, es, g)
}

// checkNone is Make of a grid that is not valid.
func checkNone(t *testing.T, es []api.Edge, g api.Grid, want api.Errno) {
	t.Helper()
	f, errno := Make(es, g)
	if errno != want || f.W != 0 || f.H != 0 || len(f.Text) != 0 {
		t.Errorf("Make(%v, %+v) = %v, %d, want the zero field and %d", es, g, f, errno, want)
	}
}

// P10.1: Texel and Row, and P10.2: the field of Make.

// The chapter's example: a centre on an edge, also at the middle of a slanted one, and at an edge's end.
func TestExample(t *testing.T) {
	checkField(t, square(0, 20), single(-2, 4, 4, 8), 128)
	checkField(t, square(0, 20), single(4, 18, 4, 8), 128)
	checkField(t, square(0, 20), single(-2, -2, 4, 8), 128)
	checkField(t, square(0, 20), single(18, 18, 4, 8), 128)
	checkField(t, ring(at(0, 0), at(640, 320), at(0, 640)), single(9, 4, 2, 1), 128)
	checkField(t, []api.Edge{{A: at(-32, 5), B: at(64, 27)}}, single(0, 0, 1, 1), 128)
}

// The example of the whole document, and the same square the other way round.
func TestSquareOf20Units(t *testing.T) {
	for _, es := range [][]api.Edge{square(0, 20), back(square(0, 20))} {
		checkField(t, es, single(8, 8, 4, 8), 255)
		checkField(t, es, single(-6, 8, 4, 8), 65)
		checkField(t, es, single(8, -6, 4, 8), 65)
		checkField(t, es, single(22, 8, 4, 8), 65)
		checkField(t, es, single(8, 22, 4, 8), 65)
		checkField(t, es, single(2, 8, 4, 8), 191)
		checkField(t, es, api.Grid{X: -6, Y: -6, Pitch: 4, W: 5, H: 3, Spread: 8},
			39, 65, 65, 65, 65,
			65, 128, 128, 128, 128,
			65, 128, 191, 191, 191)
	}
}

// Less than the spread away, by as little as the grid can be moved, just as far away, and farther.
func TestAtTheSpread(t *testing.T) {
	right := ring(at(3200, -8000), at(8000, -8000), at(8000, 8000), at(3200, 8000))
	for _, x := range []struct {
		x, spread int
		want      byte
	}{
		// The centre is at X + 1.
		{99, 8, 128},
		{98, 8, 128 - 15},
		{92, 8, 128 - 111},
		{91, 8, 1},
		{90, 8, 1},
		{-255, 8, 1},
		{106, 8, 128 + 111},
		{107, 8, 255},
		{108, 8, 255},
		{98, 1, 1},
		{97, 1, 1},
		{36, 64, 128 - 125},
		{35, 64, 1},
		{34, 64, 1},
	} {
		checkField(t, right, single(x.x, 5, 2, x.spread), x.want)
	}
	// A spread of 1 unit is 32 small units: the root of 1021 is an eighth less, once it is rounded down.
	dot := func(x, y int) []api.Edge { return []api.Edge{{A: at(16+x, 16+y), B: at(16+x, 16+y)}} }
	checkField(t, dot(11, 30), single(0, 0, 1, 1), 2)
	checkField(t, dot(0, -32), single(0, 0, 1, 1), 1)
	checkField(t, dot(-31, 8), single(0, 0, 1, 1), 1)
}

func TestInsideAtTheSpread(t *testing.T) {
	es := square(-100, 100)
	for _, x := range []struct {
		x, spread int
		want      byte
	}{
		{99, 8, 128},
		{98, 8, 128 + 15},
		{92, 8, 128 + 111},
		{91, 8, 255},
		{90, 8, 255},
		{0, 8, 255},
		{0, 64, 255},
		{36, 64, 128 + 125},
		{35, 64, 255},
		{-92, 8, 128 + 127},
		{-93, 8, 128 + 127},
		{-94, 8, 128 + 111},
		{-101, 8, 128},
	} {
		checkField(t, es, single(x.x, -1, 2, x.spread), x.want)
	}
}

func TestNoEdges(t *testing.T) {
	for _, es := range noEdges() {
		for _, g := range []api.Grid{
			single(0, 0, 1, 1), single(-255, 255, 16, 64),
			{X: 3, Y: -4, Pitch: 2, W: 5, H: 3, Spread: 8},
			{X: 255, Y: 255, Pitch: 16, W: 24, H: 24, Spread: 64},
		} {
			checkField(t, es, g, ones(g.W*g.H)...)
			if got := Texel(es, g, g.W-1, g.H-1); got != 1 {
				t.Errorf("Texel without edges = %d", got)
			}
			if got := Row(es, g, 0); !bytes.Equal(got, ones(g.W)) {
				t.Errorf("Row without edges = %v", got)
			}
		}
	}
}

// One texel in each place around and within a ring that has a hole: a square, and one in it the other way round. A second one the same way round is no hole.
func TestRingsWithinEachOther(t *testing.T) {
	outer, inner := square(0, 12), square(4, 8)
	g := api.Grid{X: -2, Y: 5, Pitch: 2, W: 8, H: 1, Spread: 4}
	hole := append(slices.Clone(outer), back(inner)...)
	checkField(t, hole, g, 97, 159, 159, 97, 97, 159, 159, 97)
	checkField(t, append(back(outer), inner...), g, 97, 159, 159, 97, 97, 159, 159, 97)
	twice := append(slices.Clone(outer), inner...)
	checkField(t, twice, g, 97, 159, 159, 159, 159, 159, 159, 97)
	checkField(t, append(back(outer), back(inner)...), g, 97, 159, 159, 159, 159, 159, 159, 97)
	// All of it twice, and once each way, so that nothing is inside.
	checkField(t, append(slices.Clone(outer), outer...), g, 97, 159, 223, 255, 255, 223, 159, 97)
	checkField(t, append(slices.Clone(outer), back(outer)...), g, 97, 97, 33, 1, 1, 33, 97, 97)
}

// A star of five points goes round its middle twice.
func TestStar(t *testing.T) {
	star := ring(at(0, 640), at(-377, -518), at(608, 198), at(-608, 198), at(377, -518))
	for _, es := range [][]api.Edge{star, back(star)} {
		checkField(t, es, single(-1, -1, 2, 1), 255)
		checkField(t, es, single(-1, -20, 2, 1), 1)
		check(t, es, api.Grid{X: -24, Y: -24, Pitch: 2, W: 24, H: 24, Spread: 6})
	}
}

// Edges that do not lead on from one to the next, and such without length.
func TestOpenEdges(t *testing.T) {
	g := api.Grid{X: -8, Y: -6, Pitch: 2, W: 9, H: 7, Spread: 5}
	check(t, square(-4, 4)[:3], g)
	check(t, square(-4, 4)[1:], g)
	check(t, []api.Edge{{A: at(32, 32), B: at(32, 32)}}, g)
	check(t, []api.Edge{{A: at(-96, 64), B: at(64, -32)}, {A: at(0, 0), B: at(0, 0)}}, g)
	checkField(t, []api.Edge{{A: at(0, 0), B: at(0, 0)}}, single(-2, -2, 4, 8), 128)
	checkField(t, []api.Edge{{A: at(0, 0), B: at(0, 0)}}, single(2, -2, 4, 8), 65)
}

// Columns and rows that differ in number: an edge is nearer to the first ones of one field, and to the last ones of another.
func TestColumnsAndRows(t *testing.T) {
	below := []api.Edge{{A: at(-3000, 0), B: at(3000, 0)}}
	left := []api.Edge{{A: at(0, -3000), B: at(0, 3000)}}
	wide := api.Grid{X: -1, Y: -1, Pitch: 2, W: 5, H: 2, Spread: 8}
	high := api.Grid{X: -1, Y: -1, Pitch: 2, W: 2, H: 5, Spread: 8}
	checkField(t, below, wide, 128, 128, 128, 128, 128, 97, 97, 97, 97, 97)
	checkField(t, left, wide, 128, 97, 65, 33, 1, 128, 97, 65, 33, 1)
	checkField(t, below, high, 128, 128, 97, 97, 65, 65, 33, 33, 1, 1)
	checkField(t, left, high, 128, 97, 128, 97, 128, 97, 128, 97, 128, 97)
	if got := Row(left, wide, 1); !bytes.Equal(got, []byte{128, 97, 65, 33, 1}) {
		t.Errorf("Row of five columns = %v", got)
	}
	if got := Row(below, high, 4); !bytes.Equal(got, []byte{1, 1}) {
		t.Errorf("Row of two columns = %v", got)
	}
}

func TestEachSize(t *testing.T) {
	es := square(-3, 5)
	for w := 1; w <= 24; w++ {
		for h := 1; h <= 24; h++ {
			g := api.Grid{X: -7, Y: -5, Pitch: 1, W: w, H: h, Spread: 6}
			f, errno := Make(es, g)
			if errno != 0 || f.W != w || f.H != h || len(f.Text) != w*h {
				t.Fatalf("Make of %d, %d has the error %d, and %d, %d with %d texels", w, h, errno, f.W, f.H, len(f.Text))
			}
			for n, texel := range f.Text {
				if want := Texel(es, g, n%w, n/w); texel != want {
					t.Fatalf("Make of %d, %d has %d at %d, want %d", w, h, texel, n, want)
				}
			}
		}
	}
	check(t, es, api.Grid{X: -12, Y: -12, Pitch: 1, W: 24, H: 24, Spread: 6})
}

// The first and the last row and column of the greatest grid, in each corner of what may be.
func TestGreatestGrids(t *testing.T) {
	far := ring(at(-api.EdgeFar, -api.EdgeFar), at(api.EdgeFar, -api.EdgeFar), at(api.EdgeFar, api.EdgeFar), at(-api.EdgeFar, api.EdgeFar))
	for _, x := range []int{-255, 255} {
		for _, y := range []int{-255, 255} {
			g := api.Grid{X: x, Y: y, Pitch: 16, W: 24, H: 24, Spread: 64}
			check(t, far, g)
			check(t, back(square(-200, 200)), g)
		}
	}
}

func TestAnyEdgesAndValidGrids(t *testing.T) {
	r := rand.New(rand.NewPCG(10, 1))
	for j := range 1500 {
		g := validGrid(r)
		g.W, g.H = 1+r.IntN(6), 1+r.IntN(6)
		most := []int{100, 1000, api.EdgeFar}[j%3]
		if j%2 == 0 {
			g.X, g.Y, g.Pitch = r.IntN(20)-12, r.IntN(20)-12, 1+r.IntN(4)
		}
		coord := func() int { return r.IntN(2*most+1) - most }
		if j%5 == 0 {
			// On the centres of texels, and between them.
			coord = func() int { return (r.IntN(25) - 12) * 16 }
		}
		points := make([]api.Point, r.IntN(8))
		for n := range points {
			points[n] = at(coord(), coord())
		}
		es := ring(points...)
		if j%7 == 0 {
			es = append(es, es...)
		}
		check(t, es, g)
		check(t, back(es), g)
	}
}

// P10.2: the errors of Make.

func TestMakeOfOneWrongPart(t *testing.T) {
	for _, es := range append(noEdges(), square(0, 4)) {
		for _, p := range parts() {
			for _, n := range p.wrong() {
				g := api.Grid{X: -2, Y: 1, Pitch: 2, W: 3, H: 4, Spread: 5}
				*p.of(&g) = n
				checkNone(t, es, g, p.errno)
			}
		}
		checkNone(t, es, api.Grid{}, api.ErrSize)
		checkNone(t, es, api.Grid{W: 1, H: 1}, api.ErrArgument)
	}
}

func TestMakeOfTwoWrongParts(t *testing.T) {
	es := square(0, 4)
	for k, p := range parts() {
		for _, q := range parts()[k+1:] {
			for _, n := range p.wrong() {
				for _, m := range q.wrong() {
					g := api.Grid{X: -2, Y: 1, Pitch: 2, W: 3, H: 4, Spread: 5}
					*p.of(&g), *q.of(&g) = n, m
					// The parts of a size stand first.
					checkNone(t, es, g, p.errno)
				}
			}
		}
	}
}

func TestMakeAtTheBounds(t *testing.T) {
	es := square(-5, 5)
	for _, p := range parts() {
		for _, n := range []int{p.least, p.greatest} {
			g := api.Grid{X: -2, Y: 1, Pitch: 2, W: 3, H: 4, Spread: 5}
			*p.of(&g) = n
			check(t, es, g)
		}
	}
}

// What a call has returned is its own (W6): to change it changes nothing that a later call returns.
func TestNewMemory(t *testing.T) {
	g := api.Grid{X: -2, Y: 1, Pitch: 2, W: 3, H: 4, Spread: 5}
	for _, es := range [][]api.Edge{nil, square(0, 4)} {
		row, other := Row(es, g, 1), Row(es, g, 1)
		f, _ := Make(es, g)
		clear(row)
		clear(f.Text)
		if bytes.Equal(row, other) {
			t.Error("two rows share their memory")
		}
		check(t, es, g)
	}
}

// Beyond the bounds each call ends without a panic (W1), and answers the same each time (W2); what Make says of a grid holds for any edges.
func TestBeyondTheBounds(t *testing.T) {
	r := rand.New(rand.NewPCG(10, 2))
	for j := range 30000 {
		g := api.Grid{X: wild(r), Y: wild(r), Pitch: wild(r), W: wild(r), H: wild(r), Spread: wild(r)}
		if j%2 == 0 {
			g = validGrid(r)
			g.W, g.H = 1+r.IntN(3), 1+r.IntN(3)
		}
		es := make([]api.Edge, r.IntN(5))
		for n := range es {
			es[n] = api.Edge{A: at(wild(r), wild(r)), B: at(wild(r), wild(r))}
		}
		i, k := wild(r), wild(r)
		before := slices.Clone(es)
		if got := Texel(es, g, i, k); got != Texel(es, g, i, k) {
			t.Fatalf("Texel(%v, %+v, %d, %d) = %d, and not each time", es, g, i, k, got)
		}
		if got := Row(es, g, k); !bytes.Equal(got, Row(es, g, k)) {
			t.Fatalf("Row(%v, %+v, %d) = %v, and not each time", es, g, k, got)
		}
		f, errno := Make(es, g)
		if errno == 0 && (f.W != g.W || f.H != g.H || len(f.Text) != g.W*g.H) || errno != 0 && (f.W != 0 || f.H != 0 || len(f.Text) != 0) {
			t.Fatalf("Make(%v, %+v) = %v, %d", es, g, f, errno)
		}
		if j%2 == 0 && errno != 0 {
			t.Fatalf("Make(%v, %+v) has the error %d", es, g, errno)
		}
		if !slices.Equal(es, before) {
			t.Fatalf("the edges %v have become %v", before, es)
		}
	}
}

// Rows of grids without columns, or with more than there is memory for, and columns and rows that do not exist.
func TestNoSuchTexels(t *testing.T) {
	es := square(0, 4)
	numbers := []int{math.MinInt, -1 << 32, -1, 0, 1, 24, 25, 1 << 32, 1 << 62, math.MaxInt}
	for _, n := range numbers {
		for _, m := range numbers {
			g := api.Grid{X: -2, Y: 1, Pitch: 2, W: n, H: m, Spread: 5}
			Row(es, g, 0)
			Row(nil, g, m)
			g.W, g.H = 3, 4
			Row(es, g, n)
			Texel(es, g, n, m)
			if got := Texel(nil, g, n, m); got != 1 {
				t.Errorf("Texel without edges = %d", got)
			}
			g.Pitch, g.Spread = n, m
			Row(es, g, 1)
			Texel(es, g, 1, 2)
		}
	}
}
