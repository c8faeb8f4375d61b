package sweep

import (
	"bytes"
	"math"
	"math/big"
	"math/rand/v2"
	"slices"
	"testing"

	"punchcut/api"
	"punchcut/dist"
	"punchcut/grid"
	"punchcut/sdf"
)

func at(x, y int) api.Point { return api.Point{X: x, Y: y} }

// edge is one from a place to another, in small units.
func edge(ax, ay, bx, by int) api.Edge { return api.Edge{A: at(ax, ay), B: at(bx, by)} }

// dot is an edge without length.
func dot(x, y int) api.Edge { return edge(x, y, x, y) }

// square is a counterclockwise one, in units.
func square(least, greatest int) []api.Edge {
	a, b := least*api.Unit, greatest*api.Unit
	return []api.Edge{edge(a, a, b, a), edge(b, a, b, b), edge(b, b, a, b), edge(a, b, a, a)}
}

// plain is a grid from 0, 0 on, with texels of 64 small units: their centres are at 32, 96, 160 and so on.
func plain(w, h int) api.Grid { return api.Grid{Pitch: 2, W: w, H: h, Spread: 8} }

// turned is all with X and Y exchanged: also the texels' list.
func turned(es []api.Edge, g api.Grid, texels []int) ([]api.Edge, api.Grid, []int) {
	var turnedEdges []api.Edge
	for _, e := range es {
		turnedEdges = append(turnedEdges, edge(e.A.Y, e.A.X, e.B.Y, e.B.X))
	}
	var list []int
	for n := range texels {
		list = append(list, texels[n%g.H*g.W+n/g.H])
	}
	g.X, g.Y, g.W, g.H = g.Y, g.X, g.H, g.W
	return turnedEdges, g, list
}

// wild are numbers of any kind: small ones, ones at the bounds of an int and of powers of 2, and random ones.
func wild(r *rand.Rand) int {
	switch r.IntN(4) {
	case 0:
		return r.IntN(60) - 30
	case 1:
		return r.IntN(1<<17) - 1<<16
	case 2:
		return 1<<r.IntN(64) + r.IntN(3) - 1
	}
	return int(r.Uint64())
}

// wantCentre is the centre of the texel with an index.
func wantCentre(g api.Grid, n int) api.Point {
	return at(32*g.X+16*g.Pitch*(2*(n%g.W)+1), 32*g.Y+16*g.Pitch*(2*(n/g.W)+1))
}

func ratio(n int) *big.Rat { return new(big.Rat).SetInt64(int64(n)) }

// wantSquare is the square of a point's distance from an edge: from the foot, which is so great a part of the way from A to B.
func wantSquare(e api.Edge, p api.Point) *big.Rat {
	x, y := e.B.X-e.A.X, e.B.Y-e.A.Y
	part := ratio(0)
	if length := x*x + y*y; length > 0 {
		part.Quo(ratio(x*(p.X-e.A.X)+y*(p.Y-e.A.Y)), ratio(length))
	}
	if part.Sign() < 0 {
		part = ratio(0)
	}
	if part.Cmp(ratio(1)) > 0 {
		part = ratio(1)
	}
	sum := ratio(0)
	for _, way := range [][2]int{{x, e.A.X - p.X}, {y, e.A.Y - p.Y}} {
		offset := new(big.Rat).Mul(part, ratio(way[0]))
		offset.Add(offset, ratio(way[1]))
		sum.Add(sum, offset.Mul(offset, offset))
	}
	return sum
}

// wantHolder is the texel of a point: the last column and row that don't begin beyond it, or the first ones.
func wantHolder(g api.Grid, p api.Point) int {
	i, k := 0, 0
	for i+1 < g.W && 32*(g.X+(i+1)*g.Pitch) <= p.X {
		i++
	}
	for k+1 < g.H && 32*(g.Y+(k+1)*g.Pitch) <= p.Y {
		k++
	}
	return k*g.W + i
}

// wantHalf is the half of a number, rounded towards 0.
func wantHalf(n int) int {
	if n < 0 {
		return -wantHalf(-n)
	}
	return (n - n&1) / 2
}

// around are the neighbours whose edges a texel is offered, in their order: those of step 2, and those of step 3.
type around [2][]api.Point

func allAround() around {
	return around{
		{at(-1, 0), at(0, -1), at(-1, -1), at(1, -1)},
		{at(1, 0), at(0, 1), at(1, 1), at(-1, 1)},
	}
}

// without is all but one of them.
func (a around) without(way api.Point) around {
	for n := range a {
		a[n] = slices.DeleteFunc(slices.Clone(a[n]), func(w api.Point) bool { return w == way })
	}
	return a
}

// exchanged is all with two of them in each other's place.
func (a around) exchanged(v, w api.Point) around {
	for n := range a {
		a[n] = slices.Clone(a[n])
		if i, k := slices.Index(a[n], v), slices.Index(a[n], w); i >= 0 && k >= 0 {
			a[n][i], a[n][k] = w, v
		}
	}
	return a
}

// wantKnown is P13.1 by another way: what texels know is a map from their places to edges, and all squares are fractions of any size.
func wantKnown(es []api.Edge, g api.Grid, neighbours around) []int {
	know := map[api.Point]int{}
	offer := func(texel api.Point, index int) {
		centre := wantCentre(g, texel.Y*g.W+texel.X)
		knew, some := know[texel]
		if !some || index != knew && wantSquare(es[index], centre).Cmp(wantSquare(es[knew], centre)) < 0 {
			know[texel] = index
		}
	}
	for index, e := range es {
		middle := at(wantHalf(e.A.X+e.B.X), wantHalf(e.A.Y+e.B.Y))
		for _, p := range []api.Point{e.A, middle, e.B} {
			n := wantHolder(g, p)
			offer(at(n%g.W, n/g.W), index)
		}
	}
	var texels []api.Point
	for k := range g.H {
		for i := range g.W {
			texels = append(texels, at(i, k))
		}
	}
	for _, ways := range neighbours {
		for _, texel := range texels {
			for _, way := range ways {
				if index, some := know[at(texel.X+way.X, texel.Y+way.Y)]; some {
					offer(texel, index)
				}
			}
		}
		slices.Reverse(texels)
	}
	list := slices.Repeat([]int{-1}, g.W*g.H)
	for texel, index := range know {
		list[texel.Y*g.W+texel.X] = index
	}
	return list
}

// wantField are the texels by P13.2: the sign is that of layer 8, which has tests of its own.
func wantField(es []api.Edge, g api.Grid, known []int) []byte {
	var text []byte
	for n, index := range known {
		if index < 0 {
			text = append(text, 1)
			continue
		}
		centre := wantCentre(g, n)
		square := wantSquare(es[index], centre)
		whole := new(big.Int).Mul(square.Num(), big.NewInt(64))
		eight := int(whole.Sqrt(whole.Quo(whole, square.Denom())).Int64())
		text = append(text, byte(128+dist.Sign(es, centre)*min(127, eight*127/(256*g.Spread))))
	}
	return text
}

// checkKnown holds Known to a list, and to W6.
func checkKnown(t *testing.T, es []api.Edge, g api.Grid, want ...int) {
	t.Helper()
	before := slices.Clone(es)
	if got := Known(es, g); !slices.Equal(got, want) {
		t.Errorf("Known(%v, %+v) = %v, want %v", es, g, got, want)
	}
	if !slices.Equal(es, before) {
		t.Errorf("the edges %v have become %v", before, es)
	}
}

// checkField holds Make to texels, and to W6.
func checkField(t *testing.T, es []api.Edge, g api.Grid, want ...byte) {
	t.Helper()
	before := slices.Clone(es)
	f, errno := Make(es, g)
	if errno != 0 || f.W != g.W || f.H != g.H || !bytes.Equal(f.Text, want) {
		t.Errorf("Make(%v, %+v) = %v, %d, want %v", es, g, f, errno, want)
	}
	if !slices.Equal(es, before) {
		t.Errorf("the edges %v have become %v", before, es)
	}
}

// check holds both functions, for a valid grid, against the promises followed by another way.
func check(t *testing.T, es []api.Edge, g api.Grid) {
	t.Helper()
	known := wantKnown(es, g, allAround())
	checkKnown(t, es, g, known...)
	checkField(t, es, g, wantField(es, g, known)...)
	if t.Failed() {
		t.FailNow()
	}
}

// noEdges are the ways to have none.
func noEdges() [][]api.Edge {
	return [][]api.Edge{nil, {}, square(0, 9)[:0]}
}

// P13.1: Known of none and of one.

func TestKnownOfNoEdges(t *testing.T) {
	for _, es := range noEdges() {
		checkKnown(t, es, plain(1, 1), -1)
		checkKnown(t, es, plain(3, 2), -1, -1, -1, -1, -1, -1)
		checkKnown(t, es, api.Grid{X: -9, Y: 200, Pitch: 16, W: 1, H: 4, Spread: 1}, -1, -1, -1, -1)
	}
}

// The chapter's example: wherever the one edge is, all texels know it.
func TestKnownOfOneEdge(t *testing.T) {
	for _, e := range []api.Edge{
		dot(32, 32), dot(0, 0), dot(-1, -1), dot(700, 32), dot(-700, 900), edge(0, 0, 64, 64), edge(300, -300, -300, 300), edge(70, 70, 70, 8000),
		edge(-api.EdgeFar, api.EdgeFar, api.EdgeFar, api.EdgeFar), edge(-1, 8192, -2, 8191), dot(api.EdgeFar, -api.EdgeFar),
	} {
		for _, size := range []api.Point{at(1, 1), at(1, 5), at(5, 1), at(2, 3), at(4, 3), at(24, 24), at(24, 1)} {
			for _, start := range []int{0, -3, 255, -255} {
				g := api.Grid{X: start, Y: -start, Pitch: 2, W: size.X, H: size.Y, Spread: 8}
				checkKnown(t, []api.Edge{e}, g, make([]int, size.X*size.Y)...)
			}
		}
	}
}

// P13.1: step 1.

// offered are the texels that are offered an edge in step 1. Each texel but one has an edge at its very centre that goes first, and so this one can learn of the other edge in step 1 only.
func offered(e api.Edge, g api.Grid) []int {
	var list []int
	for one := range g.W * g.H {
		var es []api.Edge
		for n := range g.W * g.H {
			if n != one {
				centre := wantCentre(g, n)
				es = append(es, api.Edge{A: centre, B: centre})
			}
		}
		es = append(es, e)
		if Known(es, g)[one] == len(es)-1 {
			list = append(list, one)
		}
	}
	return list
}

// checkOffered holds offered to a list, and likewise with X and Y exchanged, for a grid of one row.
func checkOffered(t *testing.T, e api.Edge, g api.Grid, want ...int) {
	t.Helper()
	if got := offered(e, g); !slices.Equal(got, want) {
		t.Errorf("of %+v the texels %v are offered %v, want %v", g, got, e, want)
	}
	if g.H == 1 {
		es, column, _ := turned([]api.Edge{e}, g, nil)
		if got := offered(es[0], column); !slices.Equal(got, want) {
			t.Errorf("of %+v the texels %v are offered %v, want %v", column, got, es[0], want)
		}
	}
}

func TestTexelsOfThreePoints(t *testing.T) {
	// Each in one of its own, and what lies between is not offered the edge.
	checkOffered(t, edge(32, 40, 288, 40), plain(5, 1), 0, 2, 4)
	checkOffered(t, edge(288, 40, 32, 40), plain(5, 1), 0, 2, 4)
	checkOffered(t, edge(20, 30, 280, 300), plain(5, 5), 0, 12, 24)
	checkOffered(t, edge(280, 30, 20, 300), plain(5, 5), 4, 12, 20)
	checkOffered(t, edge(100, 10, 150, 140), plain(3, 3), 1, 4, 8)
	// Two in one, and all three.
	checkOffered(t, edge(10, 40, 70, 40), plain(3, 1), 0, 1)
	checkOffered(t, edge(60, 40, 70, 40), plain(3, 1), 0, 1)
	checkOffered(t, edge(62, 40, 120, 40), plain(3, 1), 0, 1)
	checkOffered(t, edge(70, 40, 120, 10), plain(3, 1), 1)
	checkOffered(t, dot(130, 50), plain(3, 1), 2)
	// Columns and rows that differ in number.
	checkOffered(t, dot(140, 70), plain(3, 2), 5)
	checkOffered(t, dot(70, 140), plain(2, 3), 5)
	checkOffered(t, dot(10, 140), plain(2, 3), 4)
	checkOffered(t, dot(140, 10), plain(3, 2), 2)
}

// A texel has its left and its lower line, and not those on its right and above.
func TestPointsOnALineBetweenTexels(t *testing.T) {
	for _, x := range []struct{ coord, texel int }{{63, 0}, {64, 1}, {65, 1}, {127, 1}, {128, 2}, {129, 2}, {0, 0}, {1, 0}, {-1, 0}, {191, 2}, {192, 2}, {193, 2}} {
		checkOffered(t, dot(x.coord, 32), plain(3, 1), x.texel)
	}
	checkOffered(t, edge(64, 32, 128, 32), plain(3, 1), 1, 2)
	checkOffered(t, edge(128, 32, 0, 32), plain(3, 1), 0, 1, 2)
	checkOffered(t, edge(0, 0, 128, 128), plain(3, 3), 0, 4, 8)
	checkOffered(t, dot(64, 64), plain(2, 2), 3)
	checkOffered(t, dot(64, 63), plain(2, 2), 1)
	checkOffered(t, dot(63, 64), plain(2, 2), 2)
	checkOffered(t, dot(63, 63), plain(2, 2), 0)
	// Where X and Y are below 0, too: rounded down, and not towards 0.
	below := api.Grid{X: -3, Y: -1, Pitch: 2, W: 4, H: 1, Spread: 8}
	for _, x := range []struct{ coord, texel int }{{-96, 0}, {-33, 0}, {-32, 1}, {-31, 1}, {-1, 1}, {0, 1}, {31, 1}, {32, 2}, {33, 2}, {95, 2}, {96, 3}, {-97, 0}, {159, 3}, {160, 3}} {
		checkOffered(t, dot(x.coord, 7), below, x.texel)
	}
	// Above 0, and with texels of other widths.
	for _, g := range []api.Grid{
		{X: 5, Y: 7, Pitch: 1, W: 3, H: 1, Spread: 8}, {X: -200, Y: -201, Pitch: 1, W: 4, H: 1, Spread: 8},
		{X: 5, Y: 7, Pitch: 16, W: 3, H: 1, Spread: 64}, {X: -255, Y: -254, Pitch: 16, W: 4, H: 1, Spread: 1},
		{X: -8, Y: 0, Pitch: 3, W: 5, H: 1, Spread: 1}, {X: 100, Y: 0, Pitch: 7, W: 5, H: 1, Spread: 1},
	} {
		for n := 1; n < g.W; n++ {
			line, y := 32*(g.X+n*g.Pitch), wantCentre(g, 0).Y
			checkOffered(t, dot(line-1, y), g, n-1)
			checkOffered(t, dot(line, y), g, n)
			checkOffered(t, dot(line+1, y+1), g, n)
		}
	}
}

// A point that is in none counts in the nearest one: each of the three by itself.
func TestPointsBelowTheFirstAndBeyondTheLast(t *testing.T) {
	checkOffered(t, dot(-20, 32), plain(3, 1), 0)
	checkOffered(t, dot(212, 32), plain(3, 1), 2)
	checkOffered(t, dot(96, -20), plain(3, 3), 1)
	checkOffered(t, dot(96, 212), plain(3, 3), 7)
	checkOffered(t, dot(-10, -10), plain(3, 3), 0)
	checkOffered(t, dot(202, -10), plain(3, 3), 2)
	checkOffered(t, dot(-10, 202), plain(3, 3), 6)
	checkOffered(t, dot(202, 202), plain(3, 3), 8)
	checkOffered(t, edge(-500, 40, 820, 40), plain(5, 1), 0, 2, 4)
	checkOffered(t, edge(820, 40, -500, 40), plain(5, 1), 0, 2, 4)
	checkOffered(t, edge(-700, 40, 160, 40), plain(5, 1), 0, 2)
	checkOffered(t, edge(160, 40, -700, 40), plain(5, 1), 0, 2)
	checkOffered(t, edge(1000, 40, 160, 40), plain(5, 1), 2, 4)
	checkOffered(t, edge(160, 40, 1000, 40), plain(5, 1), 2, 4)
	checkOffered(t, edge(-8192, 40, 8192, 40), plain(5, 1), 0, 4)
	checkOffered(t, edge(-8192, -8192, 8192, 8192), plain(5, 5), 0, 24)
	checkOffered(t, edge(-7800, 8120, 8120, -7800), plain(5, 5), 4, 12, 20)
	checkOffered(t, edge(2000, -2000, -1900, 1900), api.Grid{X: -5, Y: -5, Pitch: 2, W: 5, H: 5, Spread: 8}, 4, 8, 20)
	// The widest texels, at the greatest X and Y.
	wide := api.Grid{X: 255, Y: 255, Pitch: 16, W: 24, H: 1, Spread: 8}
	checkOffered(t, edge(8192, 8192, 8191, 8192), wide, 0)
}

// Half of an odd sum is rounded towards 0, also below 0: neither down nor up.
func TestMidpointsOfOddSums(t *testing.T) {
	for _, x := range []struct {
		start, a, b int
		want        []int
	}{
		// The half of 383, 384 and 385 is 191, 192 and 192: the line is at 192.
		{0, 10, 373, []int{0, 2, 5}}, {0, 10, 374, []int{0, 3, 5}}, {0, 10, 375, []int{0, 3, 5}},
		// The half of -1, 0, 1 and -2 is 0, 0, 0 and -1: the line is at 0.
		{-6, -170, 169, []int{0, 3, 5}}, {-6, -170, 170, []int{0, 3, 5}}, {-6, -170, 171, []int{0, 3, 5}}, {-6, -170, 168, []int{0, 2, 5}}, {-6, -170, 167, []int{0, 2, 5}},
		// The half of -385, -384, -386 and -387 is -192, -192, -193 and -193: the line is at -192.
		{-12, -380, -5, []int{0, 3, 5}}, {-12, -380, -4, []int{0, 3, 5}}, {-12, -380, -6, []int{0, 2, 5}}, {-12, -380, -7, []int{0, 2, 5}},
		// The half of -383 is -191, and that is in the same texel as -192.
		{-12, -380, -3, []int{0, 3, 5}},
	} {
		g := api.Grid{X: x.start, Y: 0, Pitch: 2, W: 6, H: 1, Spread: 8}
		checkOffered(t, edge(x.a, 40, x.b, 40), g, x.want...)
		checkOffered(t, edge(x.b, 40, x.a, 40), g, x.want...)
	}
}

// Of edges that are equally near the first one stays, in each way in which it can be offered; a nearer one takes its place.
func TestEdgesOfTheSameTexel(t *testing.T) {
	one := plain(1, 1)
	checkKnown(t, []api.Edge{dot(20, 32), dot(44, 32)}, one, 0)
	checkKnown(t, []api.Edge{dot(44, 32), dot(20, 32), dot(32, 20), dot(32, 44)}, one, 0)
	checkKnown(t, []api.Edge{dot(20, 32), dot(20, 32)}, one, 0)
	checkKnown(t, []api.Edge{edge(0, 40, 60, 40), edge(60, 40, 0, 40)}, one, 0)
	checkKnown(t, []api.Edge{edge(0, 20, 60, 20), dot(32, 44), edge(44, 0, 44, 9000)}, one, 0)
	checkKnown(t, []api.Edge{dot(20, 32), dot(43, 32)}, one, 1)
	checkKnown(t, []api.Edge{dot(43, 32), dot(20, 32)}, one, 0)
	checkKnown(t, []api.Edge{dot(20, 32), dot(43, 32), dot(42, 32), dot(22, 32), dot(0, 0)}, one, 2)
	checkKnown(t, []api.Edge{dot(0, 0), dot(10, 10), dot(20, 20), dot(32, 32), dot(32, 32)}, one, 3)
	// A whole square against a fraction: from 16, 16 that of the slanted edge is 256/13, which is 19.7; those of the others are 17, 18, 20 and 256/13.
	slanted, low := edge(0, 0, 60, 40), api.Grid{Pitch: 1, W: 1, H: 1, Spread: 8}
	checkKnown(t, []api.Edge{slanted, dot(20, 17)}, low, 1)
	checkKnown(t, []api.Edge{slanted, dot(19, 19)}, low, 1)
	checkKnown(t, []api.Edge{slanted, dot(20, 18)}, low, 0)
	checkKnown(t, []api.Edge{dot(20, 18), slanted}, low, 1)
	checkKnown(t, []api.Edge{slanted, edge(60, 40, 0, 0)}, low, 0)
	checkKnown(t, []api.Edge{slanted, edge(40, 0, 0, 60), dot(19, 19)}, low, 2)
}

// P13.1: steps 2 and 3.

// Each direction by itself: without it, the texels would know other edges.
func TestEachDirection(t *testing.T) {
	for _, x := range []struct {
		name string
		way  api.Point
		es   []api.Edge
		g    api.Grid
		want []int
	}{
		{"left", at(-1, 0), []api.Edge{dot(20, 20)}, plain(2, 1), []int{0, 0}},
		{"left", at(-1, 0), []api.Edge{dot(40, 20), dot(170, 40)}, plain(3, 1), []int{0, 0, 1}},
		{"below", at(0, -1), []api.Edge{dot(20, 20)}, plain(1, 2), []int{0, 0}},
		{"below", at(0, -1), []api.Edge{dot(20, 40), dot(40, 170)}, plain(1, 3), []int{0, 0, 1}},
		{"below to the left", at(-1, -1), []api.Edge{edge(96, 0, 0, 64), edge(64, 32, 32, 32)}, plain(2, 2), []int{1, 0, 0, 1}},
		{"below to the right", at(1, -1), []api.Edge{edge(128, 0, 64, 32), edge(128, 0, 128, 64)}, plain(2, 2), []int{0, 0, 0, 1}},
		{"right", at(1, 0), []api.Edge{dot(70, 20)}, plain(2, 1), []int{0, 0}},
		{"right", at(1, 0), []api.Edge{dot(20, 20), dot(130, 40)}, plain(3, 1), []int{0, 1, 1}},
		{"above", at(0, 1), []api.Edge{dot(20, 70)}, plain(1, 2), []int{0, 0}},
		{"above", at(0, 1), []api.Edge{dot(20, 20), dot(40, 130)}, plain(1, 3), []int{0, 1, 1}},
		{"above to the right", at(1, 1), []api.Edge{edge(96, 96, 0, 64), edge(64, 64, 32, 128)}, plain(2, 2), []int{0, 1, 1, 0}},
		{"above to the left", at(-1, 1), []api.Edge{edge(0, 128, 64, 64), dot(96, 128)}, plain(2, 2), []int{0, 0, 0, 1}},
	} {
		checkKnown(t, x.es, x.g, x.want...)
		if got := wantKnown(x.es, x.g, allAround()); !slices.Equal(got, x.want) {
			t.Errorf("the promise gives %v for %v, want %v", got, x.es, x.want)
		}
		if slices.Equal(wantKnown(x.es, x.g, allAround().without(x.way)), x.want) {
			t.Errorf("%v needs no edge from %s", x.es, x.name)
		}
	}
}

// Each two directions of a step: in the other order, an edge that is as near would stay.
func TestOrderOfDirections(t *testing.T) {
	corners := []api.Edge{dot(32, 128), dot(128, 32)}
	for _, x := range []struct {
		first, second []api.Point
		es            []api.Edge
		g             api.Grid
		want          []int
	}{
		{[]api.Point{at(-1, 0)}, []api.Point{at(0, -1), at(-1, -1), at(1, -1)}, corners, plain(2, 2), []int{1, 1, 0, 0}},
		{[]api.Point{at(0, -1)}, []api.Point{at(-1, -1)}, []api.Edge{edge(96, 32, 32, 0), edge(0, 32, 96, 32), dot(0, 96)}, plain(2, 2), []int{1, 0, 2, 0}},
		{[]api.Point{at(0, -1)}, []api.Point{at(1, -1)}, []api.Edge{dot(32, 32), edge(96, 96, 96, 0)}, plain(2, 2), []int{0, 1, 0, 1}},
		{[]api.Point{at(-1, -1)}, []api.Point{at(1, -1)}, []api.Edge{edge(0, 96, 64, 0), edge(32, 64, 32, 32), edge(160, 0, 160, 64)}, plain(3, 2), []int{1, 0, 2, 0, 1, 2}},
		{[]api.Point{at(1, 0)}, []api.Point{at(0, 1), at(1, 1), at(-1, 1)}, corners, plain(2, 2), []int{1, 1, 0, 0}},
		{[]api.Point{at(0, 1)}, []api.Point{at(1, 1)}, []api.Edge{edge(96, 32, 128, 128), edge(64, 128, 0, 64), edge(64, 64, 96, 96)}, plain(2, 2), []int{1, 0, 1, 2}},
		{[]api.Point{at(0, 1)}, []api.Point{at(-1, 1)}, []api.Edge{dot(128, 96), edge(0, 64, 64, 96)}, plain(2, 2), []int{1, 0, 1, 0}},
		{[]api.Point{at(1, 1)}, []api.Point{at(-1, 1)}, []api.Edge{edge(160, 64, 32, 64), edge(32, 96, 96, 64), edge(160, 32, 64, 128)}, plain(3, 2), []int{0, 0, 2, 1, 2, 0}},
	} {
		checkKnown(t, x.es, x.g, x.want...)
		for _, v := range x.first {
			for _, w := range x.second {
				if slices.Equal(wantKnown(x.es, x.g, allAround().exchanged(v, w)), x.want) {
					t.Errorf("%v needs no order of %v and %v", x.es, v, w)
				}
			}
		}
	}
}

// A texel hands on what it has itself learnt in the same step, as far as the texels go.
func TestEdgesGoOnWithinAStep(t *testing.T) {
	checkKnown(t, []api.Edge{dot(20, 20)}, plain(5, 1), 0, 0, 0, 0, 0)
	checkKnown(t, []api.Edge{dot(300, 20)}, plain(5, 1), 0, 0, 0, 0, 0)
	checkKnown(t, []api.Edge{dot(20, 20)}, plain(1, 5), 0, 0, 0, 0, 0)
	checkKnown(t, []api.Edge{dot(20, 300)}, plain(1, 5), 0, 0, 0, 0, 0)
	// The edge 0 is in the first texel, and the edge 1 in the last one; what is between learns of both, and takes the nearer one.
	checkKnown(t, []api.Edge{dot(60, 20), dot(430, 20)}, plain(7, 1), 0, 0, 0, 0, 1, 1, 1)
	checkKnown(t, []api.Edge{dot(20, 60), dot(20, 430)}, plain(1, 7), 0, 0, 0, 0, 1, 1, 1)
	checkKnown(t, []api.Edge{dot(60, 20), dot(388, 20)}, plain(7, 1), 0, 0, 0, 0, 1, 1, 1)
	checkKnown(t, []api.Edge{dot(60, 20), dot(387, 20)}, plain(7, 1), 0, 0, 0, 1, 1, 1, 1)
	// In step 2 the edge goes from the first texel to the last one, and in step 3 the other one goes all the way back.
	all := slices.Repeat([]int{0}, 24*24)
	checkKnown(t, []api.Edge{dot(20, 20)}, plain(24, 24), all...)
	checkKnown(t, []api.Edge{dot(1530, 1530)}, plain(24, 24), all...)
	checkKnown(t, []api.Edge{dot(1530, 1)}, plain(24, 24), all...)
	checkKnown(t, []api.Edge{dot(1, 1530)}, plain(24, 24), all...)
}

// Row by row, and not column by column: only then has the first row told the second one all that it knows.
func TestRowsGoFirst(t *testing.T) {
	// In step 1 the texel 1 learns of the edge 1, which is nearer to the texel 2 than the edge 0; but the texel 0 goes first and tells it of the edge 0.
	checkKnown(t, []api.Edge{edge(96, 64, 0, 0), edge(64, 32, 64, 128)}, plain(2, 2), 0, 0, 0, 0)
}

// Grids of one column, of one row and of one texel, and others that are as wide as they aren't high.
func TestSmallAndNarrowGrids(t *testing.T) {
	es := []api.Edge{edge(10, 20, 300, 40), edge(100, 100, 20, 200), dot(160, 32), edge(-50, 230, 260, 225)}
	for w := 1; w <= 5; w++ {
		for h := 1; h <= 5; h++ {
			for n := range es {
				g := plain(w, h)
				check(t, es[n:], g)
				check(t, es[:n], g)
				g.X, g.Y = -w, -2*h
				check(t, es[n:], g)
			}
		}
	}
	checkKnown(t, es, plain(1, 1), 0)
	checkKnown(t, es, plain(3, 1), 0, 0, 2)
	checkKnown(t, es, plain(1, 4), 0, 1, 1, 3)
	checkKnown(t, es, plain(3, 2), 0, 0, 2, 1, 1, 1)
	checkKnown(t, es, plain(2, 3), 0, 0, 1, 1, 1, 1)
}

// What goes by the centres isn't always known there: the edge 0 is in the first texel, the third and the fifth, where others are nearer.
func TestAnEdgeThatIsForgotten(t *testing.T) {
	es := []api.Edge{edge(32, 40, 288, 40), dot(32, 32), dot(160, 32), dot(288, 32)}
	checkKnown(t, es, plain(5, 1), 1, 1, 2, 2, 3)
	checkField(t, es, plain(5, 1), 128, 97, 128, 97, 128)
	exact, _ := sdf.Make(es, plain(5, 1))
	if !bytes.Equal(exact.Text, []byte{128, 125, 128, 125, 128}) {
		t.Errorf("the exact field is %v", exact.Text)
	}
	column, g, list := turned(es, plain(5, 1), []int{1, 1, 2, 2, 3})
	checkKnown(t, column, g, list...)
	// An edge that goes up on the right of a texel has it inside.
	checkField(t, column, g, 128, 159, 128, 159, 128)
}

// P13.2: Make.

func TestMakeOfNoGrid(t *testing.T) {
	for _, x := range []struct {
		of    func(g *api.Grid) *int
		wrong []int
		errno api.Errno
	}{
		{func(g *api.Grid) *int { return &g.W }, []int{0, 25, -1, 1 << 32}, api.ErrSize},
		{func(g *api.Grid) *int { return &g.H }, []int{0, 25, -1, 1 << 32}, api.ErrSize},
		{func(g *api.Grid) *int { return &g.X }, []int{-256, 256, 1 << 32}, api.ErrArgument},
		{func(g *api.Grid) *int { return &g.Y }, []int{-256, 256, 1 << 32}, api.ErrArgument},
		{func(g *api.Grid) *int { return &g.Pitch }, []int{0, 17, -1, 1 << 32}, api.ErrArgument},
		{func(g *api.Grid) *int { return &g.Spread }, []int{0, 65, -1, 1 << 32}, api.ErrArgument},
	} {
		for _, n := range append(x.wrong, math.MinInt, math.MaxInt) {
			g := plain(3, 2)
			*x.of(&g) = n
			checkNone(t, square(0, 4), g, x.errno)
			checkNone(t, nil, g, x.errno)
			// A size comes before all else.
			g.H = 0
			checkNone(t, square(0, 4), g, api.ErrSize)
			Known(square(0, 4), g)
		}
	}
	checkNone(t, square(0, 4), api.Grid{}, api.ErrSize)
	checkNone(t, nil, api.Grid{}, api.ErrSize)
	checkNone(t, nil, api.Grid{W: 1, H: 1}, api.ErrArgument)
}

// checkNone is Make of a grid that is not valid.
func checkNone(t *testing.T, es []api.Edge, g api.Grid, want api.Errno) {
	t.Helper()
	f, errno := Make(es, g)
	if errno != want || f.W != 0 || f.H != 0 || len(f.Text) != 0 {
		t.Errorf("Make(%v, %+v) = %v, %d, want the zero field and %d", es, g, f, errno, want)
	}
}

// A texel that knows no edge is as far outside as can be: with every spread.
func TestMakeOfNoEdges(t *testing.T) {
	for _, es := range noEdges() {
		for spread := 1; spread <= 64; spread++ {
			checkField(t, es, api.Grid{X: -1, Y: 3, Pitch: 1, W: 3, H: 2, Spread: spread}, 1, 1, 1, 1, 1, 1)
		}
		checkField(t, es, plain(1, 1), 1)
		checkField(t, es, plain(24, 24), bytes.Repeat([]byte{1}, 576)...)
	}
}

// A unit is 15 or 16 steps of a spread of 8, and 8 units are the last one.
func TestMakeInsideOutsideAndOnEdges(t *testing.T) {
	es := square(0, 4)
	inAndOut := api.Grid{X: -2, Y: 0, Pitch: 2, W: 4, H: 2, Spread: 8}
	// To the first texels inside, the left edge is as near as the lower and the upper one, which are offered first: so no texel knows it, and those outside know an edge that is farther.
	checkField(t, es, inAndOut, 106, 143, 143, 113, 106, 143, 143, 113)
	on := api.Grid{X: -3, Y: -1, Pitch: 2, W: 5, H: 3, Spread: 8}
	checkField(t, es, on, 97, 128, 128, 128, 97, 97, 128, 159, 128, 97, 97, 128, 128, 128, 97)
	// The sign is that of all edges, and not the side of the edge that the texel knows: clockwise, too.
	slices.Reverse(es)
	for n, e := range es {
		es[n] = api.Edge{A: e.B, B: e.A}
	}
	checkField(t, es, inAndOut, 113, 143, 143, 113, 113, 143, 143, 113)
	// A square in another one: twice inside is inside, and in a hole it's outside.
	checkField(t, append(square(-12, 16), square(0, 4)...), inAndOut, 150, 143, 143, 143, 150, 143, 143, 143)
	checkField(t, append(square(-12, 16), es...), inAndOut, 143, 113, 113, 143, 143, 113, 113, 143)
	// As far away as counts, and farther.
	checkField(t, square(-9, 9), api.Grid{X: -1, Y: -1, Pitch: 2, W: 9, H: 1, Spread: 8}, 255, 239, 207, 175, 143, 113, 81, 49, 17)
	checkField(t, square(-9, 9), api.Grid{X: -1, Y: -1, Pitch: 2, W: 9, H: 1, Spread: 1}, 255, 255, 255, 255, 255, 1, 1, 1, 1)
}

// Eight times the distance is rounded down ahead of the value: neither up nor to the nearest one, nor not at all.
func TestDistancesThatAreNoWholeEighths(t *testing.T) {
	for _, x := range []struct {
		x, y, spread int
		want         byte
	}{
		// Eight times the root of 17 is 32.98, which gives 15; 32.98 and 33 would give 16.
		{1, 4, 1, 128 - 15}, {4, 1, 1, 128 - 15}, {1, 5, 1, 128 - 19}, {1, 6, 1, 128 - 23}, {1, 7, 1, 128 - 27},
		{2, 2, 1, 128 - 10}, {2, 3, 1, 128 - 13}, {3, 5, 1, 128 - 22}, {3, 19, 1, 128 - 75},
		// Of whole eighths.
		{3, 4, 1, 128 - 19}, {0, 1, 1, 128 - 3}, {0, 16, 1, 128 - 63}, {0, 0, 1, 128},
	} {
		g := api.Grid{Pitch: 1, W: 1, H: 1, Spread: x.spread}
		checkField(t, []api.Edge{dot(16+x.x, 16-x.y)}, g, x.want)
		checkField(t, []api.Edge{dot(16-x.x, 16+x.y)}, g, x.want)
	}
	// Of squares that are fractions: 256/61, to whose root 16.39 eighths belong, and 512/5, to whose root 80.95 do.
	checkField(t, []api.Edge{edge(0, 0, 20, 24)}, api.Grid{Pitch: 1, W: 1, H: 1, Spread: 1}, 128-7)
	checkField(t, []api.Edge{edge(0, 0, 8, 24)}, api.Grid{Pitch: 1, W: 1, H: 1, Spread: 1}, 128-39)
}

// The first row is the lowest one, and each goes from the left to the right.
func TestFieldRowByRow(t *testing.T) {
	es := []api.Edge{edge(0, 0, 0, 2000)}
	checkField(t, es, api.Grid{X: -1, Y: 4, Pitch: 2, W: 4, H: 2, Spread: 8}, 128, 97, 65, 33, 128, 97, 65, 33)
	checkField(t, es, api.Grid{X: -1, Y: 4, Pitch: 2, W: 2, H: 3, Spread: 8}, 128, 97, 128, 97, 128, 97)
	es = []api.Edge{edge(0, 0, 2000, 0)}
	checkField(t, es, api.Grid{X: 4, Y: -1, Pitch: 2, W: 4, H: 2, Spread: 8}, 128, 128, 128, 128, 97, 97, 97, 97)
	checkField(t, es, api.Grid{X: 4, Y: -1, Pitch: 2, W: 2, H: 3, Spread: 8}, 128, 128, 97, 97, 65, 65)
	checkField(t, []api.Edge{dot(0, 0)}, api.Grid{X: -1, Y: -1, Pitch: 2, W: 3, H: 2, Spread: 8}, 128, 97, 65, 97, 84, 58)
}

// What has been returned is the caller's own (W6).
func TestNewMemory(t *testing.T) {
	es, g := square(0, 4), plain(3, 3)
	for _, edges := range [][]api.Edge{es, nil} {
		clear(Known(edges, g))
		f, _ := Make(edges, g)
		clear(f.Text)
		check(t, edges, g)
	}
}

// Any edges and valid grids, against both promises followed by another way.
func TestAnyEdgesAndValidGrids(t *testing.T) {
	r := rand.New(rand.NewPCG(13, 1))
	for j := range 4000 {
		g := api.Grid{X: r.IntN(16) - 12, Y: r.IntN(16) - 12, Pitch: 1 + r.IntN(3), W: 1 + r.IntN(5), H: 1 + r.IntN(5), Spread: 1 + r.IntN(20)}
		if j%4 == 0 {
			g.X, g.Y, g.Pitch = r.IntN(511)-255, r.IntN(511)-255, 1+r.IntN(16)
		}
		if j%50 == 0 {
			g.W, g.H = 1+r.IntN(24), 1+r.IntN(24)
		}
		most := []int{200, 600, api.EdgeFar}[j%3]
		coord := func() int { return r.IntN(2*most+1) - most }
		if j%5 < 2 {
			// On the centres of texels, and on the lines between them, where many edges are equally near.
			coord = func() int { return (r.IntN(21) - 10) * 16 }
		}
		check(t, anyEdges(r, coord), g)
	}
}

// anyEdges are some that often lead on from one to the next, and often have no length.
func anyEdges(r *rand.Rand, coord func() int) []api.Edge {
	es := make([]api.Edge, r.IntN(8))
	for n := range es {
		es[n] = edge(coord(), coord(), coord(), coord())
		if n > 0 && r.IntN(2) > 0 {
			es[n].A = es[n-1].B
		}
		if r.IntN(5) == 0 {
			es[n].B = es[n].A
		}
	}
	return es
}

// T4: against the exact field, a field by sweeping has the same signs and never a smaller distance; with one edge alone it's the same.
func TestAgainstExactFields(t *testing.T) {
	r := rand.New(rand.NewPCG(13, 2))
	for range 3000 {
		g := api.Grid{X: r.IntN(12) - 8, Y: r.IntN(12) - 8, Pitch: 1 + r.IntN(3), W: 1 + r.IntN(8), H: 1 + r.IntN(8), Spread: 1 + r.IntN(9)}
		es := anyEdges(r, func() int { return r.IntN(601) - 300 })
		if len(es) > 2 {
			es = append(es, api.Edge{A: es[len(es)-1].B, B: es[0].A})
		}
		swept, errno := Make(es, g)
		exact, _ := sdf.Make(es, g)
		if errno != 0 || len(swept.Text) != len(exact.Text) {
			t.Fatalf("Make(%v, %+v) = %v, %d", es, g, swept, errno)
		}
		if len(es) < 2 && !bytes.Equal(swept.Text, exact.Text) {
			t.Fatalf("Make(%v, %+v) = %v, want %v", es, g, swept, exact)
		}
		for n := range exact.Text {
			if s, e := int(swept.Text[n])-128, int(exact.Text[n])-128; s*e < 0 || s*s < e*e {
				t.Fatalf("Make(%v, %+v) = %v, nearer or on the other side than %v", es, g, swept, exact)
			}
		}
	}
}

// The longest edges, and the greatest grids in each corner of what may be.
func TestAtTheBounds(t *testing.T) {
	const far = api.EdgeFar
	es := append(square(-far/api.Unit, far/api.Unit), edge(-far, -far, far, far), edge(far, 1-far, 1-far, far), edge(far, far, far-1, far), dot(-far, far))
	for _, x := range []int{-255, 255} {
		for _, y := range []int{-255, 255} {
			for _, pitch := range []int{1, 16} {
				for _, size := range []api.Point{at(24, 24), at(1, 24), at(24, 1), at(1, 1), at(23, 2)} {
					g := api.Grid{X: x, Y: y, Pitch: pitch, W: size.X, H: size.Y, Spread: 64}
					check(t, es, g)
					check(t, es[4:], g)
				}
			}
		}
	}
}

// Beyond the bounds each call ends without a panic (W1), and answers the same each time (W2); what Make says of a grid holds for any edges.
func TestBeyondTheBounds(t *testing.T) {
	r := rand.New(rand.NewPCG(13, 3))
	for j := range 40000 {
		g := api.Grid{X: wild(r), Y: wild(r), Pitch: wild(r), W: wild(r), H: wild(r), Spread: wild(r)}
		if j%2 == 0 {
			g = api.Grid{X: r.IntN(511) - 255, Y: r.IntN(511) - 255, Pitch: 1 + r.IntN(16), W: 1 + r.IntN(4), H: 1 + r.IntN(4), Spread: 1 + r.IntN(64)}
		}
		es := anyEdges(r, func() int { return wild(r) })
		before := slices.Clone(es)
		if got := Known(es, g); !slices.Equal(got, Known(es, g)) {
			t.Fatalf("Known(%v, %+v) = %v, and not each time", es, g, got)
		}
		if errno := grid.Check(g); errno != 0 {
			checkNone(t, es, g, errno)
		} else {
			f, _ := Make(es, g)
			checkField(t, es, g, f.Text...)
			if len(f.Text) != g.W*g.H {
				t.Fatalf("Make(%v, %+v) has %d texels", es, g, len(f.Text))
			}
		}
		if !slices.Equal(es, before) {
			t.Fatalf("the edges %v have become %v", before, es)
		}
	}
}

// Grids that aren't valid, each with one number of any size: Known ends, however many texels they would have.
func TestKnownOfNoGrid(t *testing.T) {
	numbers := []int{math.MinInt, -1 << 32, -1, 0, 25, 1 << 20, 1 << 32, 1 << 62, math.MaxInt}
	for _, n := range numbers {
		for _, m := range numbers {
			for _, g := range []api.Grid{
				{Pitch: 2, W: n, H: m, Spread: 8}, {Pitch: 2, W: n, H: 1, Spread: m}, {Pitch: m, W: 2, H: n, Spread: 8},
				{Pitch: n, W: 2, H: 2, Spread: m}, {X: n, Y: m, Pitch: 2, W: 2, H: 2, Spread: 8}, {X: n, Pitch: m, W: 3, H: 2, Spread: 8},
			} {
				Known(nil, g)
				Known(square(0, 4), g)
				Known([]api.Edge{edge(n, m, m, n)}, g)
			}
		}
	}
}
