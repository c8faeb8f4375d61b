package msdf

import (
	"bytes"
	"math"
	"math/big"
	"math/rand/v2"
	"slices"
	"testing"

	"punchcut/api"
	"punchcut/corner"
	"punchcut/grid"
	"punchcut/sdf"
)

func at(x, y int) api.Point { return api.Point{X: x, Y: y} }

// edge is one from a place to another, in units.
func edge(ax, ay, bx, by int) api.Edge {
	return api.Edge{A: at(ax*api.Unit, ay*api.Unit), B: at(bx*api.Unit, by*api.Unit)}
}

// square is a counterclockwise one, in units.
func square(least, greatest int) []api.Edge {
	return []api.Edge{
		edge(least, least, greatest, least), edge(greatest, least, greatest, greatest),
		edge(greatest, greatest, least, greatest), edge(least, greatest, least, least),
	}
}

// wheel is 16 edges without a corner: each turns from the one before it by less than 23 degrees.
func wheel() []api.Edge {
	ways := []api.Point{
		at(12, 0), at(12, 5), at(9, 9), at(5, 12), at(0, 12), at(-5, 12), at(-9, 9), at(-12, 5),
		at(-12, 0), at(-12, -5), at(-9, -9), at(-5, -12), at(0, -12), at(5, -12), at(9, -9), at(12, -5),
	}
	var es []api.Edge
	a := at(0, 0)
	for _, w := range ways {
		b := at(a.X+10*w.X, a.Y+10*w.Y)
		es = append(es, api.Edge{A: a, B: b})
		a = b
	}
	return es
}

// single is a grid of one texel whose centre is at a place in units, with a spread of 8: a unit is 15 or 16 steps, and 8 units are the last one.
func single(x, y int) api.Grid {
	return api.Grid{X: x - 1, Y: y - 1, Pitch: 2, W: 1, H: 1, Spread: 8}
}

// small is a grid of which nothing is wrong.
func small() api.Grid {
	return api.Grid{X: -2, Y: 1, Pitch: 2, W: 3, H: 4, Spread: 5}
}

// wild are numbers of any kind: small ones, ones at the bounds of an int and of powers of 2, and random ones.
func wild(r *rand.Rand) int {
	switch r.IntN(4) {
	case 0:
		return r.IntN(60) - 30
	case 1:
		return r.IntN(1<<17) - 1<<16
	case 2:
		return 1<<r.IntN(64) + r.IntN(3) - 1
	}
	return int(r.Uint64())
}

// anyColours are so many of those that edges may have, now and then all White or with numbers that are no colours.
func anyColours(r *rand.Rand, count int) []int {
	colours := slices.Repeat([]int{7}, count)
	kind := r.IntN(8)
	for n := range colours {
		switch {
		case kind == 0:
			colours[n] = wild(r)
		case kind > 1:
			colours[n] = r.IntN(8)
		}
	}
	if kind == 2 && count > 0 {
		return append(slices.Repeat([]int{7}, count-1), r.IntN(8))
	}
	return colours
}

// number and ratio are numbers of any size.
func number(n int) *big.Int { return big.NewInt(int64(n)) }
func ratio(n int) *big.Rat  { return new(big.Rat).SetInt64(int64(n)) }

// wantSquare is the square of a point's distance from an edge: from the foot, which is so great a part of the way from A to B.
func wantSquare(e api.Edge, p api.Point) *big.Rat {
	x, y := e.B.X-e.A.X, e.B.Y-e.A.Y
	part := ratio(0)
	if length := x*x + y*y; length > 0 {
		part.Quo(ratio(x*(p.X-e.A.X)+y*(p.Y-e.A.Y)), ratio(length))
	}
	if part.Sign() < 0 {
		part = ratio(0)
	}
	if part.Cmp(ratio(1)) > 0 {
		part = ratio(1)
	}
	offset := func(way, from int) *big.Rat {
		d := new(big.Rat).Mul(part, ratio(way))
		d.Sub(d, ratio(from))
		return d.Mul(d, d)
	}
	return offset(x, p.X-e.A.X).Add(offset(x, p.X-e.A.X), offset(y, p.Y-e.A.Y))
}

// wantCode is what a texel holds by the line of an edge: the distance's eighths are found from the area between the edge and the point.
func wantCode(e api.Edge, p api.Point, spread int) byte {
	x, y := e.B.X-e.A.X, e.B.Y-e.A.Y
	area := number(x*(p.Y-e.A.Y) - y*(p.X-e.A.X))
	if area.Sign() == 0 {
		return 128
	}
	eight := new(big.Int).Mul(area, area)
	eight.Mul(eight, number(64)).Quo(eight, number(x*x+y*y)).Sqrt(eight)
	step := min(127, int(eight.Int64())*127/(256*spread))
	return byte(128 + area.Sign()*step)
}

// wantChannel is P12.1 by another way, with exact fractions; where it is sdf.Texel, that has tests of its own.
func wantChannel(es []api.Edge, colours []int, g api.Grid, i, k, c int) byte {
	p := at(32*g.X+16*g.Pitch*(2*i+1), 32*g.Y+16*g.Pitch*(2*k+1))
	first, least := -1, new(big.Rat)
	for n, e := range es {
		if n >= len(colours) || number(colours[n]>>c).Bit(0) == 0 {
			continue
		}
		if d := wantSquare(e, p); first < 0 || d.Cmp(least) < 0 {
			first, least = n, d
		}
	}
	others := slices.ContainsFunc(colours, func(colour int) bool { return colour != 7 })
	if first < 0 || !others {
		return sdf.Texel(es, g, i, k)
	}
	return wantCode(es[first], p, g.Spread)
}

// checkChannel holds Channel of one texel against the other way.
func checkChannel(t *testing.T, es []api.Edge, colours []int, g api.Grid, i, k, c int) byte {
	t.Helper()
	got, want := Channel(es, colours, g, i, k, c), wantChannel(es, colours, g, i, k, c)
	if got != want {
		t.Fatalf("Channel(%v, %v, %+v, %d, %d, %d) = %d, want %d", es, colours, g, i, k, c, got, want)
	}
	return want
}

// checkFields holds the fields of Make against those that are wanted.
func checkFields(t *testing.T, es []api.Edge, colours []int, g api.Grid, want [3][]byte) {
	t.Helper()
	fs, errno := Make(es, colours, g)
	if errno != 0 {
		t.Fatalf("Make(%v, %v, %+v) has the error %d", es, colours, g, errno)
	}
	for c, f := range fs {
		if f.W != g.W || f.H != g.H || !bytes.Equal(f.Text, want[c]) {
			t.Fatalf("Make(%v, %v, %+v) has %v for channel %d, want %v", es, colours, g, f, c, want[c])
		}
	}
}

// check holds Channel and Make, for a valid grid, against P12.1, P12.2 and W6.
func check(t *testing.T, es []api.Edge, colours []int, g api.Grid) {
	t.Helper()
	edgesBefore, coloursBefore := slices.Clone(es), slices.Clone(colours)
	var want [3][]byte
	for c := range want {
		for k := range g.H {
			for i := range g.W {
				want[c] = append(want[c], checkChannel(t, es, colours, g, i, k, c))
			}
		}
	}
	checkFields(t, es, colours, g, want)
	if !slices.Equal(es, edgesBefore) || !slices.Equal(colours, coloursBefore) {
		t.Fatalf("the edges %v and colours %v have become %v and %v", edgesBefore, coloursBefore, es, colours)
	}
}

// checkTexel is check of a grid of one texel, with what it holds in each channel written out.
func checkTexel(t *testing.T, es []api.Edge, colours []int, g api.Grid, want ...byte) {
	t.Helper()
	for c, texel := range want {
		if got := Channel(es, colours, g, 0, 0, c); got != texel {
			t.Errorf("Channel(%v, %v, %+v, 0, 0, %d) = %d, want %d", es, colours, g, c, got, texel)
		}
	}
	check(t, es, colours, g)
}

// checkNone is Make of a grid that is not valid.
func checkNone(t *testing.T, es []api.Edge, colours []int, g api.Grid, want api.Errno) {
	t.Helper()
	fs, errno := Make(es, colours, g)
	if errno != want {
		t.Errorf("Make(%v, %v, %+v) has the error %d, want %d", es, colours, g, errno, want)
	}
	for c, f := range fs {
		if f.W != 0 || f.H != 0 || len(f.Text) != 0 {
			t.Errorf("Make(%v, %v, %+v) has %v for channel %d, want the zero field", es, colours, g, f, c)
		}
	}
}

// P12.1: Channel.

// An edge alone: the centre beside it, beyond each of its ends, on each side, on the line and on the edge itself. The channels that it is not of are sdf's, by the distance from the edge, and outside.
func TestOneEdge(t *testing.T) {
	for _, x := range []struct {
		x, y     int
		of, none byte
	}{
		{5, 3, 128 + 47, 128 - 47},
		{5, -3, 128 - 47, 128 - 47},
		{5, 9, 255, 1},
		{5, -9, 1, 1},
		{5, 0, 128, 128},
		{0, 0, 128, 128},
		{10, 0, 128, 128},
		// Beyond an end: 3 units away from the line, but 5 from the edge, and more.
		{14, 3, 128 + 47, 128 - 79},
		{14, -3, 128 - 47, 128 - 79},
		{-4, 3, 128 + 47, 128 - 79},
		{-4, -3, 128 - 47, 128 - 79},
		{40, 1, 128 + 15, 1},
		{-40, -1, 128 - 15, 1},
		{14, 0, 128, 128 - 63},
		{-3, 0, 128, 128 - 47},
		{100, 0, 128, 1},
	} {
		es, g := []api.Edge{edge(0, 0, 10, 0)}, single(x.x, x.y)
		checkTexel(t, es, []int{1}, g, x.of, x.none, x.none)
		checkTexel(t, es, []int{2}, g, x.none, x.of, x.none)
		checkTexel(t, es, []int{4}, g, x.none, x.none, x.of)
		// The other way round, what was on its left is on its right.
		turned := []api.Edge{{A: es[0].B, B: es[0].A}}
		checkTexel(t, turned, []int{1}, g, byte(256-int(x.of)), x.none, x.none)
	}
}

// The same of edges that are slanted. An open edge counts as going round what is on its left, if that is neither below nor above it.
func TestOneSlantedEdge(t *testing.T) {
	// 5 units away from the middle, on each side.
	checkTexel(t, []api.Edge{edge(0, 0, 30, 40)}, []int{6}, single(19, 17), 128-79, 128-79, 128-79)
	checkTexel(t, []api.Edge{edge(0, 0, 30, 40)}, []int{6}, single(11, 23), 128+79, 128+79, 128+79)
	checkTexel(t, []api.Edge{edge(30, 40, 0, 0)}, []int{6}, single(11, 23), 128+79, 128-79, 128-79)
	// 5 units beyond the end, and from there 5 units aside, where the edge is the root of 50 away.
	checkTexel(t, []api.Edge{edge(0, 0, 3, 4)}, []int{6}, single(6, 8), 128-79, 128, 128)
	checkTexel(t, []api.Edge{edge(0, 0, 3, 4)}, []int{6}, single(2, 11), 128-112, 128+79, 128+79)
	// A line at 45 degrees, 3 units below and above the centre: 543 eighths of small units.
	checkTexel(t, []api.Edge{edge(0, 0, 10, 10)}, []int{1}, single(20, 23), 128+33, 1, 1)
	checkTexel(t, []api.Edge{edge(0, 0, 10, 10)}, []int{2}, single(23, 20), 1, 128-33, 1)
}

// Eighths are rounded down: the greatest ones below a spread of 1 unit, and those that reach it.
func TestEighthsAreRoundedDown(t *testing.T) {
	// The centre is at 16, 16.
	g := api.Grid{W: 1, H: 1, Pitch: 1, Spread: 1}
	// 475 through the root of 221: 255.6 eighths.
	checkTexel(t, []api.Edge{{A: at(11, -37), B: at(41, -4)}}, []int{1}, g, 128+126)
	checkTexel(t, []api.Edge{{A: at(41, -4), B: at(11, -37)}}, []int{1}, g, 128-126)
	// 160 through 5: 256 eighths.
	checkTexel(t, []api.Edge{{A: at(17, -36), B: at(47, 4)}}, []int{1}, g, 255)
	checkTexel(t, []api.Edge{{A: at(47, 4), B: at(17, -36)}}, []int{1}, g, 1)
}

// One edge, beyond whose end the centre is: with all elements 7 its line isn't asked, and with any other one it is, in each channel that the edge is of.
func TestColoursOfOneEdge(t *testing.T) {
	es, g := []api.Edge{edge(0, 0, 10, 0)}, single(14, 3)
	const line, other = 128 + 47, 128 - 79
	for _, x := range []struct {
		colours []int
		want    [3]byte
	}{
		{nil, [3]byte{other, other, other}},
		{[]int{}, [3]byte{other, other, other}},
		{[]int{0}, [3]byte{other, other, other}},
		{[]int{1}, [3]byte{line, other, other}},
		{[]int{2}, [3]byte{other, line, other}},
		{[]int{3}, [3]byte{line, line, other}},
		{[]int{4}, [3]byte{other, other, line}},
		{[]int{5}, [3]byte{line, other, line}},
		{[]int{6}, [3]byte{other, line, line}},
		{[]int{7}, [3]byte{other, other, other}},
		// More elements than edges: they count where it is asked whether all of them are 7.
		{[]int{7, 7}, [3]byte{other, other, other}},
		{[]int{7, 7, 7, 7}, [3]byte{other, other, other}},
		{[]int{7, 0}, [3]byte{line, line, line}},
		{[]int{7, 3}, [3]byte{line, line, line}},
		{[]int{7, 7, 7, 6}, [3]byte{line, line, line}},
		{[]int{0, 7}, [3]byte{other, other, other}},
		{[]int{2, 1}, [3]byte{other, line, other}},
		// Numbers with other bits than those of the channels.
		{[]int{8}, [3]byte{other, other, other}},
		{[]int{9}, [3]byte{line, other, other}},
		{[]int{15}, [3]byte{line, line, line}},
		{[]int{-1}, [3]byte{line, line, line}},
		{[]int{-2}, [3]byte{other, line, line}},
		{[]int{-3}, [3]byte{line, other, line}},
		{[]int{-8}, [3]byte{other, other, other}},
		{[]int{math.MinInt}, [3]byte{other, other, other}},
		{[]int{math.MinInt + 4}, [3]byte{other, other, line}},
		{[]int{math.MaxInt}, [3]byte{line, line, line}},
	} {
		checkTexel(t, es, x.colours, g, x.want[:]...)
	}
}

// A square of which all edges but one are White, and of which all are.
func TestAllButOneWhite(t *testing.T) {
	es := square(0, 20)
	// 3 units right of the lower right corner, and 4 below it: 5 units from both edges.
	g := single(23, -4)
	const outside, below, right = 128 - 79, 128 - 63, 128 - 47
	for _, x := range []struct {
		colours []int
		want    [3]byte
	}{
		{[]int{7, 7, 7, 7}, [3]byte{outside, outside, outside}},
		{[]int{6, 7, 7, 7}, [3]byte{right, below, below}},
		{[]int{5, 7, 7, 7}, [3]byte{below, right, below}},
		{[]int{3, 7, 7, 7}, [3]byte{below, below, right}},
		{[]int{0, 7, 7, 7}, [3]byte{right, right, right}},
		{[]int{7, 0, 7, 7}, [3]byte{below, below, below}},
		{[]int{7, 7, 0, 7}, [3]byte{below, below, below}},
		{[]int{7, 7, 7, 0}, [3]byte{below, below, below}},
		{[]int{7, 7, 7, 15}, [3]byte{below, below, below}},
		// Fewer elements: what is missing is of no channel, but all that there are may be 7.
		{[]int{7, 7, 7}, [3]byte{outside, outside, outside}},
		{[]int{7}, [3]byte{outside, outside, outside}},
		{nil, [3]byte{outside, outside, outside}},
		{[]int{0}, [3]byte{outside, outside, outside}},
		{[]int{5}, [3]byte{below, outside, below}},
		{[]int{0, 6}, [3]byte{outside, right, right}},
		{[]int{3, 5}, [3]byte{below, below, right}},
		// The centre is on the left of the upper edge.
		{[]int{0, 0, 7}, [3]byte{255, 255, 255}},
	} {
		checkTexel(t, es, x.colours, g, x.want[:]...)
		check(t, es, x.colours, api.Grid{X: -4, Y: -6, Pitch: 3, W: 9, H: 10, Spread: 6})
	}
}

func TestNoEdges(t *testing.T) {
	for _, es := range [][]api.Edge{nil, {}, square(0, 9)[:0]} {
		for _, colours := range [][]int{nil, {}, {7}, {7, 7, 7}, {0}, {1, 2, 4}, {7, 3}, {-1}, {math.MinInt}} {
			for _, g := range []api.Grid{single(0, 0), small(), {X: -255, Y: 255, Pitch: 16, W: 24, H: 24, Spread: 64}} {
				ones := bytes.Repeat([]byte{1}, g.W*g.H)
				checkFields(t, es, colours, g, [3][]byte{ones, ones, ones})
				for c := range 3 {
					if got := Channel(es, colours, g, g.W-1, g.H-1, c); got != 1 {
						t.Errorf("Channel without edges = %d", got)
					}
				}
			}
		}
	}
}

// Of edges that are equally near, the first one of the channel counts.
func TestEquallyNear(t *testing.T) {
	// Both end 5 units away from the centre, with lines 3 and 4 units away.
	a, b := edge(0, 0, 10, 0), edge(10, 0, 10, 10)
	g := single(14, -3)
	checkTexel(t, []api.Edge{a, b}, []int{1, 1}, g, 128-47, 128-79, 128-79)
	checkTexel(t, []api.Edge{b, a}, []int{1, 1}, g, 128-63, 128-79, 128-79)
	checkTexel(t, []api.Edge{a, b}, []int{3, 6}, g, 128-47, 128-47, 128-63)
	checkTexel(t, []api.Edge{b, a}, []int{3, 6}, g, 128-63, 128-63, 128-47)
	checkTexel(t, []api.Edge{a, b, a, b}, []int{0, 5, 7, 2}, g, 128-63, 128-47, 128-63)
	// Nearer ones behind them, and farther ones before them.
	far, near := edge(0, 20, 10, 20), edge(12, -4, 16, -4)
	checkTexel(t, []api.Edge{far, b, a, far}, []int{7, 3, 3, 7}, g, 128-63, 128-63, 1)
	checkTexel(t, []api.Edge{b, a, near}, []int{3, 3, 2}, g, 128-63, 128+15, 128-15)
	// On either side.
	below, above := edge(0, 0, 10, 0), edge(0, 8, 10, 8)
	checkTexel(t, []api.Edge{below, above}, []int{2, 2}, single(5, 4), 128-63, 128+63, 128-63)
	checkTexel(t, []api.Edge{above, below}, []int{2, 2}, single(5, 4), 128-63, 128-63, 128-63)
	// A slanted one, 5 units away as the other one is.
	slanted, level := edge(0, 0, 15, 20), edge(8, 10, 12, 10)
	checkTexel(t, []api.Edge{slanted, level}, []int{4, 4}, single(10, 5), 128-79, 128-79, 128-79)
	slanted = edge(15, 20, 0, 0)
	checkTexel(t, []api.Edge{slanted, level}, []int{4, 4}, single(10, 5), 128-79, 128-79, 128+79)
	checkTexel(t, []api.Edge{level, slanted}, []int{4, 4}, single(10, 5), 128-79, 128-79, 128-79)
}

// A nearer edge that is not of the channel, before the one that is and behind it.
func TestNearerEdgeOfAnotherChannel(t *testing.T) {
	below, above := edge(0, 0, 10, 0), edge(10, 6, 0, 6)
	g := single(5, 4)
	checkTexel(t, []api.Edge{below, above}, []int{1, 2}, g, 128+63, 128+31, 128-31)
	checkTexel(t, []api.Edge{above, below}, []int{1, 2}, g, 128+31, 128+63, 128-31)
	checkTexel(t, []api.Edge{below, above}, []int{6, 3}, g, 128+31, 128+31, 128+63)
	checkTexel(t, []api.Edge{above, below}, []int{0, 4}, g, 128-31, 128-31, 128+63)
	checkTexel(t, []api.Edge{below, above}, []int{4}, g, 128-31, 128-31, 128+63)
	checkTexel(t, []api.Edge{above, below}, []int{8, 7}, g, 128+63, 128+63, 128+63)
}

// It counts how far the edge is, not its line: here the centre is on the line of the farther edge.
func TestNearestEdgeWithoutTheNearestLine(t *testing.T) {
	far, near := edge(10, 0, 20, 0), edge(-3, 5, 3, 5)
	checkTexel(t, []api.Edge{far, near}, []int{1, 1}, single(0, 0), 128-79, 128-79, 128-79)
	checkTexel(t, []api.Edge{near, far}, []int{2, 2}, single(0, 0), 128-79, 128-79, 128-79)
	checkTexel(t, []api.Edge{near, far}, []int{1, 4}, single(0, 0), 128-79, 128-79, 128)
}

// An edge without length has neither a left nor a right side.
func TestEdgeWithoutLength(t *testing.T) {
	dot := edge(3, 0, 3, 0)
	checkTexel(t, []api.Edge{dot}, []int{1}, single(0, 0), 128, 128-47, 128-47)
	checkTexel(t, []api.Edge{dot}, []int{2}, single(3, 9), 1, 128, 1)
	checkTexel(t, []api.Edge{dot}, []int{4}, single(3, 0), 128, 128, 128)
	checkTexel(t, []api.Edge{dot}, []int{7}, single(0, 0), 128-47, 128-47, 128-47)
	checkTexel(t, []api.Edge{edge(-9, -4, 9, -4), dot}, []int{1, 3}, single(0, 0), 128, 128, 128-47)
	checkTexel(t, []api.Edge{edge(-9, -2, 9, -2), dot}, []int{5, 3}, single(0, 0), 128+31, 128, 128+31)
}

// Columns and rows beside the grid have a centre too.
func TestTexelsBesideTheGrid(t *testing.T) {
	es, colours, g := square(-3, 5), []int{5, 6, 3, 6}, small()
	for i := -20; i <= 20; i++ {
		for k := -20; k <= 20; k++ {
			for c := range 3 {
				checkChannel(t, es, colours, g, i, k, c)
			}
		}
	}
}

// The channels of a square as its corners colour it: beyond a corner they have lines that go on, and so the median stays square.
func TestSquareWithCorners(t *testing.T) {
	es, colours := corner.All([][]api.Edge{square(0, 20)})
	checkTexel(t, es, colours, single(10, 10), 255, 255, 255)
	checkTexel(t, es, colours, single(10, 4), 128+63, 255, 128+63)
	checkTexel(t, es, colours, single(23, -4), 128-63, 128-47, 128-63)
	checkTexel(t, es, colours, single(24, 23), 128-47, 128-63, 128-63)
	checkTexel(t, es, colours, single(16, 17), 128+47, 128+47, 128+63)
	g := api.Grid{X: 16, Y: -4, Pitch: 2, W: 4, H: 4, Spread: 8}
	fs, _ := Make(es, colours, g)
	f, errno := Merge(fs)
	want := []byte{
		128 - 47, 128 - 47, 128 - 47, 128 - 47,
		128 - 15, 128 - 15, 128 - 15, 128 - 15,
		128 + 15, 128 + 15, 128 - 15, 128 - 47,
		128 + 47, 128 + 15, 128 - 15, 128 - 47,
	}
	if errno != 0 || f.W != 4 || f.H != 4 || !bytes.Equal(f.Text, want) {
		t.Errorf("the merged fields of a square's corner are %v, %d, want %v", f, errno, want)
	}
	check(t, es, colours, g)
}

// Without corners all three channels are the field of sdf.
func TestWithoutCorners(t *testing.T) {
	es, colours := corner.All([][]api.Edge{wheel()})
	g := api.Grid{X: -20, Y: -6, Pitch: 2, W: 24, H: 20, Spread: 9}
	f, errno := sdf.Make(es, g)
	if errno != 0 {
		t.Fatalf("sdf.Make has the error %d", errno)
	}
	checkFields(t, es, colours, g, [3][]byte{f.Text, f.Text, f.Text})
	check(t, es, colours, g)
}

// P12.2: Make.

// Columns and rows that differ in number: one edge is nearer to the first rows, and the other one to the first columns.
func TestColumnsAndRows(t *testing.T) {
	es, colours := []api.Edge{edge(-90, 0, 90, 0), edge(0, -90, 0, 90)}, []int{1, 2}
	wide := api.Grid{X: -1, Y: -1, Pitch: 2, W: 5, H: 2, Spread: 8}
	checkFields(t, es, colours, wide, [3][]byte{
		{128, 128, 128, 128, 128, 159, 159, 159, 159, 159},
		{128, 97, 65, 33, 1, 128, 97, 65, 33, 1},
		{128, 128, 128, 128, 128, 128, 97, 97, 97, 97},
	})
	check(t, es, colours, wide)
	high := api.Grid{X: -1, Y: -1, Pitch: 2, W: 2, H: 5, Spread: 8}
	checkFields(t, es, colours, high, [3][]byte{
		{128, 128, 159, 159, 191, 191, 223, 223, 255, 255},
		{128, 97, 128, 97, 128, 97, 128, 97, 128, 97},
		{128, 128, 128, 97, 128, 97, 128, 97, 128, 97},
	})
	check(t, es, colours, high)
}

func TestEachSize(t *testing.T) {
	es, colours := square(-3, 5), []int{5, 6, 1, 6}
	for _, w := range []int{1, 2, 3, 7, 23, 24} {
		for _, h := range []int{1, 2, 3, 7, 23, 24} {
			g := api.Grid{X: -7, Y: -5, Pitch: 1, W: w, H: h, Spread: 6}
			var want [3][]byte
			for c := range want {
				for n := range w * h {
					want[c] = append(want[c], Channel(es, colours, g, n%w, n/w, c))
				}
			}
			checkFields(t, es, colours, g, want)
		}
	}
}

func TestMakeOfNoGrid(t *testing.T) {
	for _, x := range []struct {
		change func(g *api.Grid, n int)
		wrong  []int
		errno  api.Errno
	}{
		{func(g *api.Grid, n int) { g.W = n }, []int{0, 25, -1, 1 << 32}, api.ErrSize},
		{func(g *api.Grid, n int) { g.H = n }, []int{0, 25, -1, 1 << 32}, api.ErrSize},
		{func(g *api.Grid, n int) { g.X = n }, []int{-256, 256, 1 << 32}, api.ErrArgument},
		{func(g *api.Grid, n int) { g.Y = n }, []int{-256, 256, 1 << 32}, api.ErrArgument},
		{func(g *api.Grid, n int) { g.Pitch = n }, []int{0, 17, -1, 1 << 32}, api.ErrArgument},
		{func(g *api.Grid, n int) { g.Spread = n }, []int{0, 65, -1, 1 << 32}, api.ErrArgument},
	} {
		for _, n := range append(x.wrong, math.MinInt, math.MaxInt) {
			g := small()
			x.change(&g, n)
			// Also without edges and colours, and with such as would be sdf's.
			checkNone(t, square(0, 4), []int{5, 6, 3, 6}, g, x.errno)
			checkNone(t, square(0, 4), []int{7, 7, 7, 7}, g, x.errno)
			checkNone(t, square(0, 4), nil, g, x.errno)
			checkNone(t, nil, []int{1}, g, x.errno)
			checkNone(t, nil, nil, g, x.errno)
			// A size comes before all else.
			g.W = 25
			checkNone(t, square(0, 4), []int{5, 6, 3, 6}, g, api.ErrSize)
		}
	}
	checkNone(t, square(0, 4), []int{1}, api.Grid{}, api.ErrSize)
	checkNone(t, square(0, 4), []int{1}, api.Grid{W: 1, H: 1}, api.ErrArgument)
}

func TestMakeAtTheBounds(t *testing.T) {
	es, colours := square(-5, 5), []int{5, 6, 3, 6}
	for _, g := range []api.Grid{
		{X: -255, Y: -255, Pitch: 1, W: 1, H: 24, Spread: 1},
		{X: 255, Y: -255, Pitch: 1, W: 24, H: 1, Spread: 64},
		{X: -255, Y: 255, Pitch: 16, W: 24, H: 24, Spread: 64},
		{X: -12, Y: -11, Pitch: 1, W: 24, H: 24, Spread: 1},
	} {
		check(t, es, colours, g)
	}
}

// The longest edges that there are, and the greatest grids in each corner of what may be.
func TestGreatestGrids(t *testing.T) {
	const far = api.EdgeFar / api.Unit
	for _, x := range []int{-255, 255} {
		for _, y := range []int{-255, 255} {
			g := api.Grid{X: x, Y: y, Pitch: 16, W: 24, H: 24, Spread: 64}
			check(t, square(-far, far), []int{1, 2, 4, 3}, g)
			check(t, []api.Edge{edge(-far, -far, far, far), edge(far, far, -far, far)}, []int{5, 6}, g)
		}
	}
}

func TestAnyEdgesAndValidGrids(t *testing.T) {
	r := rand.New(rand.NewPCG(12, 1))
	for j := range 1500 {
		g := api.Grid{X: r.IntN(20) - 12, Y: r.IntN(20) - 12, Pitch: 1 + r.IntN(4), W: 1 + r.IntN(4), H: 1 + r.IntN(4), Spread: 1 + r.IntN(64)}
		if j%4 == 0 {
			g.X, g.Y, g.Pitch = r.IntN(511)-255, r.IntN(511)-255, 1+r.IntN(16)
		}
		most := []int{100, 1000, api.EdgeFar}[j%3]
		coord := func() int { return r.IntN(2*most+1) - most }
		if j%5 < 2 {
			// On the centres of texels, and between them, where many edges are equally near.
			coord = func() int { return (r.IntN(13) - 6) * 32 }
		}
		es := make([]api.Edge, r.IntN(8))
		for n := range es {
			es[n] = api.Edge{A: at(coord(), coord()), B: at(coord(), coord())}
			if n > 0 && r.IntN(4) > 0 {
				es[n].A = es[n-1].B
			}
		}
		check(t, es, anyColours(r, max(0, len(es)+r.IntN(4)-1)), g)
	}
}

// What a call has returned is its own (W6): to change it changes neither the other fields of the answer nor what a later call returns.
func TestNewMemory(t *testing.T) {
	es := square(0, 4)
	for _, colours := range [][]int{nil, {7, 7, 7, 7}, {5, 6, 3, 6}, {1}} {
		want, _ := Make(es, colours, small())
		for c := range want {
			fs, _ := Make(es, colours, small())
			_ = append(fs[c].Text, 200)
			clear(fs[c].Text)
			for n := range fs {
				if n != c && !bytes.Equal(fs[n].Text, want[n].Text) {
					t.Errorf("the fields %d and %d of %v share their memory", c, n, colours)
				}
			}
		}
		check(t, es, colours, small())
	}
}

// P12.3: Median.

// The chapter's example, and others, in each order.
func TestMedianInEachOrder(t *testing.T) {
	for _, x := range [][3]byte{
		{3, 5, 9},
		{0, 128, 255}, {0, 1, 2}, {253, 254, 255}, {0, 0, 1}, {0, 1, 1}, {254, 254, 255}, {254, 255, 255},
		{0, 0, 255}, {0, 255, 255}, {4, 4, 9}, {4, 9, 9}, {127, 127, 128}, {127, 128, 128},
		{0, 0, 0}, {1, 1, 1}, {128, 128, 128}, {255, 255, 255},
	} {
		for _, order := range [][3]int{{0, 1, 2}, {0, 2, 1}, {1, 0, 2}, {1, 2, 0}, {2, 0, 1}, {2, 1, 0}} {
			a, b, c := x[order[0]], x[order[1]], x[order[2]]
			if got := Median(a, b, c); got != x[1] {
				t.Errorf("Median(%d, %d, %d) = %d, want %d", a, b, c, got, x[1])
			}
		}
	}
}

// Of all bytes: one of the three, with another one that is no greater and another one that is no less.
func TestMedianOfAllBytes(t *testing.T) {
	for n := range 1 << 24 {
		a, b, c := byte(n>>16), byte(n>>8), byte(n)
		m := Median(a, b, c)
		first := m == a && (b <= m && m <= c || c <= m && m <= b)
		second := m == b && (a <= m && m <= c || c <= m && m <= a)
		third := m == c && (a <= m && m <= b || b <= m && m <= a)
		if !first && !second && !third {
			t.Fatalf("Median(%d, %d, %d) = %d", a, b, c, m)
		}
	}
}

// P12.3: Merge.

// checkMerge holds Merge against the promise and W6.
func checkMerge(t *testing.T, fs [3]api.Field, want api.Field, errno api.Errno) {
	t.Helper()
	before := fs
	for c, f := range fs {
		before[c].Text = slices.Clone(f.Text)
	}
	f, e := Merge(fs)
	if e != errno || f.W != want.W || f.H != want.H || !bytes.Equal(f.Text, want.Text) {
		t.Fatalf("Merge(%v) = %v, %d, want %v, %d", fs, f, e, want, errno)
	}
	clear(f.Text)
	for c := range fs {
		if !bytes.Equal(fs[c].Text, before[c].Text) {
			t.Fatalf("the field %v has become %v", before[c], fs[c])
		}
	}
}

// plain is a field with texels from a number on.
func plain(w, h int, start byte) api.Field {
	f := api.Field{W: w, H: h}
	for n := range w * h {
		f.Text = append(f.Text, start+byte(n))
	}
	return f
}

func TestMergeOfOrdinaryFields(t *testing.T) {
	a := api.Field{W: 3, H: 2, Text: []byte{3, 0, 255, 7, 128, 9}}
	b := api.Field{W: 3, H: 2, Text: []byte{9, 0, 255, 9, 1, 8}}
	c := api.Field{W: 3, H: 2, Text: []byte{5, 1, 0, 7, 255, 7}}
	want := api.Field{W: 3, H: 2, Text: []byte{5, 0, 255, 7, 128, 8}}
	for _, fs := range [][3]api.Field{{a, b, c}, {a, c, b}, {b, a, c}, {b, c, a}, {c, a, b}, {c, b, a}} {
		checkMerge(t, fs, want, 0)
	}
	checkMerge(t, [3]api.Field{a, a, a}, a, 0)
	checkMerge(t, [3]api.Field{a, b, a}, a, 0)
	checkMerge(t, [3]api.Field{plain(1, 1, 6), plain(1, 1, 4), plain(1, 1, 5)}, plain(1, 1, 5), 0)
	checkMerge(t, [3]api.Field{plain(24, 24, 0), plain(24, 24, 0), plain(24, 24, 9)}, plain(24, 24, 0), 0)
	// A field may be greater than a grid.
	checkMerge(t, [3]api.Field{plain(100, 3, 1), plain(100, 3, 1), plain(100, 3, 1)}, plain(100, 3, 1), 0)
}

// Fields without texels, and those of whose numbers both are below 0: only the product counts.
func TestMergeOfUnusualSizes(t *testing.T) {
	for _, f := range []api.Field{
		{}, {Text: []byte{}}, {W: 5}, {H: 5}, {W: -5}, {H: -5}, {W: math.MaxInt}, {H: math.MinInt},
		{W: -2, H: -1, Text: []byte{4, 9}}, {W: -1, H: -3, Text: []byte{4, 9, 8}}, {W: -1, H: -1, Text: []byte{0}},
	} {
		checkMerge(t, [3]api.Field{f, f, f}, f, 0)
	}
	nothing, empty := api.Field{W: 4}, api.Field{W: 4, Text: []byte{}}
	checkMerge(t, [3]api.Field{nothing, empty, nothing}, nothing, 0)
	for _, f := range []api.Field{{Text: []byte{7}}, {W: -1, H: 1}, {W: -1, H: 1, Text: []byte{7}}, {W: 1, H: 1}, {H: 3, Text: []byte{7, 7, 7}}, {W: math.MaxInt, H: 1}, {W: 1, H: math.MinInt}} {
		checkMerge(t, [3]api.Field{f, f, f}, api.Field{}, api.ErrSize)
	}
}

// One of the fields isn't as the others: in each of the three places.
func TestMergeOfOneThatDiffers(t *testing.T) {
	ordinary := plain(2, 3, 40)
	for _, other := range []api.Field{
		plain(3, 2, 40), plain(1, 6, 40), plain(6, 1, 40), plain(2, 2, 40), plain(2, 4, 40), plain(1, 3, 40), plain(3, 3, 40), plain(0, 3, 40), plain(2, 0, 40), {},
		{W: 2, H: 3}, {W: 2, H: 3, Text: ordinary.Text[:5]}, {W: 2, H: 3, Text: plain(7, 1, 40).Text}, {W: 2, H: 3, Text: plain(2, 6, 40).Text},
		{W: 3, H: 3, Text: ordinary.Text}, {W: 1, H: 3, Text: ordinary.Text}, {W: 2, H: 4, Text: ordinary.Text}, {W: 2, H: 2, Text: ordinary.Text},
		{W: -2, H: -3, Text: ordinary.Text}, {W: 2, H: -3, Text: ordinary.Text},
	} {
		for place := range 3 {
			fs := [3]api.Field{ordinary, ordinary, ordinary}
			fs[place] = other
			checkMerge(t, fs, api.Field{}, api.ErrSize)
			if place > 0 {
				fs[place-1] = other
				checkMerge(t, fs, api.Field{}, api.ErrSize)
			}
		}
	}
	// Without texels the sizes are to be the same, too.
	for place := range 3 {
		for _, other := range []api.Field{{W: 5}, {H: 5}, {W: 4, H: 1}, {W: 4, H: -1}, {}} {
			fs := [3]api.Field{{W: 4}, {W: 4}, {W: 4}}
			fs[place] = other
			checkMerge(t, fs, api.Field{}, api.ErrSize)
		}
	}
}

// wantMerge is P12.3 by another way, for sizes of any product.
func wantMerge(fs [3]api.Field) (api.Field, api.Errno) {
	f := api.Field{W: fs[0].W, H: fs[0].H}
	size := new(big.Int).Mul(number(f.W), number(f.H))
	for c := range fs {
		if fs[c].W != f.W || fs[c].H != f.H || size.Cmp(number(len(fs[c].Text))) != 0 {
			return api.Field{}, api.ErrSize
		}
	}
	for n := range fs[0].Text {
		three := []byte{fs[0].Text[n], fs[1].Text[n], fs[2].Text[n]}
		slices.Sort(three)
		f.Text = append(f.Text, three[1])
	}
	return f, 0
}

// Any fields: where W * H fits into an int, as P12.3 says; elsewhere only an answer (W1), and the same one again (W2).
func TestMergeOfAnyFields(t *testing.T) {
	r := rand.New(rand.NewPCG(12, 2))
	answers := map[api.Errno]int{}
	for j := range 100000 {
		w, h := r.IntN(7)-1, r.IntN(7)-1
		if j%3 == 0 {
			w, h = wild(r), wild(r)
		}
		var fs [3]api.Field
		for c := range fs {
			fs[c] = api.Field{W: w, H: h, Text: make([]byte, min(64, max(0, w*h)))}
			if r.IntN(12) == 0 {
				fs[c] = api.Field{W: w + r.IntN(3) - 1, H: h + r.IntN(3) - 1, Text: make([]byte, r.IntN(12))}
			}
			for n := range fs[c].Text {
				fs[c].Text[n] = byte(r.IntN(256))
			}
		}
		want, errno := wantMerge(fs)
		if !new(big.Int).Mul(number(w), number(h)).IsInt64() {
			want, errno = Merge(fs)
		}
		checkMerge(t, fs, want, errno)
		answers[errno]++
	}
	if answers[0] < 1000 || answers[api.ErrSize] < 1000 {
		t.Errorf("too few answers of each kind: %v", answers)
	}
}

// Sizes whose product doesn't fit into an int, with as many texels as are left of it.
func TestMergeOfHugeSizes(t *testing.T) {
	for _, f := range []api.Field{{W: 1 << 32, H: 1 << 32}, {W: 1 << 62, H: 4}, {W: math.MinInt, H: 2}, {W: math.MinInt, H: math.MinInt}, {W: math.MaxInt, H: math.MaxInt, Text: []byte{7}}, {W: math.MaxInt, H: -2, Text: []byte{7, 8}}} {
		fs := [3]api.Field{f, f, f}
		want, errno := Merge(fs)
		checkMerge(t, fs, want, errno)
	}
}

// Beyond the bounds each call ends without a panic (W1), and answers the same each time (W2); what Make says of a grid holds for any edges and colours.
func TestBeyondTheBounds(t *testing.T) {
	r := rand.New(rand.NewPCG(12, 3))
	for j := range 30000 {
		g := api.Grid{X: wild(r), Y: wild(r), Pitch: wild(r), W: wild(r), H: wild(r), Spread: wild(r)}
		if j%2 == 0 {
			g = api.Grid{X: r.IntN(511) - 255, Y: r.IntN(511) - 255, Pitch: 1 + r.IntN(16), W: 1 + r.IntN(3), H: 1 + r.IntN(3), Spread: 1 + r.IntN(64)}
		}
		es := make([]api.Edge, r.IntN(5))
		for n := range es {
			es[n] = api.Edge{A: at(wild(r), wild(r)), B: at(wild(r), wild(r))}
		}
		colours := anyColours(r, r.IntN(6))
		edgesBefore, coloursBefore := slices.Clone(es), slices.Clone(colours)
		i, k, c := wild(r), wild(r), wild(r)
		if j%3 == 0 {
			i, k, c = r.IntN(3), r.IntN(3), r.IntN(3)
		}
		if got := Channel(es, colours, g, i, k, c); got != Channel(es, colours, g, i, k, c) {
			t.Fatalf("Channel(%v, %v, %+v, %d, %d, %d) = %d, and not each time", es, colours, g, i, k, c, got)
		}
		errno := grid.Check(g)
		if j%2 == 0 && errno != 0 {
			t.Fatalf("the grid %+v has the error %d", g, errno)
		}
		if errno != 0 {
			checkNone(t, es, colours, g, errno)
		} else {
			fs, _ := Make(es, colours, g)
			checkFields(t, es, colours, g, [3][]byte{fs[0].Text, fs[1].Text, fs[2].Text})
			checkSizes(t, fs, g)
		}
		if !slices.Equal(es, edgesBefore) || !slices.Equal(colours, coloursBefore) {
			t.Fatalf("the edges %v and colours %v have become %v and %v", edgesBefore, coloursBefore, es, colours)
		}
	}
}

// checkSizes holds fields to as many texels as the grid has.
func checkSizes(t *testing.T, fs [3]api.Field, g api.Grid) {
	t.Helper()
	for c, f := range fs {
		if len(f.Text) != g.W*g.H {
			t.Fatalf("channel %d of %+v has %d texels", c, g, len(f.Text))
		}
	}
}

// Channels that there aren't, with grids and texels that there aren't.
func TestNoSuchChannels(t *testing.T) {
	numbers := []int{math.MinInt, -1 << 32, -64, -1, 0, 2, 3, 62, 63, 64, 65, 1 << 32, 1 << 62, math.MaxInt}
	for _, es := range [][]api.Edge{nil, square(0, 4)} {
		for _, colours := range [][]int{nil, {5, 6, 3, 6}, {-1}, {7, 7}, {math.MinInt, 0, 1}} {
			for _, c := range numbers {
				Channel(es, colours, small(), 1, 2, c)
				for _, n := range numbers {
					Channel(es, colours, small(), n, 1, c)
					Channel(es, colours, small(), 1, n, c)
					Channel(es, colours, api.Grid{X: n, Y: c, Pitch: n, W: c, H: n, Spread: c}, 0, 0, 1)
				}
			}
		}
	}
}
