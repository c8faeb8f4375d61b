package grid

import (
	"bytes"
	"math"
	"math/big"
	"math/rand/v2"
	"slices"
	"testing"

	"punchcut/api"
)

func at(x, y int) api.Point { return api.Point{X: x, Y: y} }

// plain is a grid of which nothing is wrong, inside all bounds.
func plain() api.Grid { return api.Grid{X: -3, Y: 2, Pitch: 3, W: 4, H: 2, Spread: 5} }

// sized is a grid with so many texels.
func sized(w, h int) api.Grid {
	g := plain()
	g.W, g.H = w, h
	return g
}

// spread is a grid with such a spread.
func spread(n int) api.Grid {
	g := plain()
	g.Spread = n
	return g
}

// part is one number of a grid, with the bounds and the error of P9.1.
type part struct {
	name            string
	of              func(g *api.Grid) *int
	least, greatest int
	errno           api.Errno
}

func parts() []part {
	return []part{
		{"W", func(g *api.Grid) *int { return &g.W }, 1, 24, api.ErrSize},
		{"H", func(g *api.Grid) *int { return &g.H }, 1, 24, api.ErrSize},
		{"X", func(g *api.Grid) *int { return &g.X }, -255, 255, api.ErrArgument},
		{"Y", func(g *api.Grid) *int { return &g.Y }, -255, 255, api.ErrArgument},
		{"Pitch", func(g *api.Grid) *int { return &g.Pitch }, 1, 16, api.ErrArgument},
		{"Spread", func(g *api.Grid) *int { return &g.Spread }, 1, 64, api.ErrArgument},
	}
}

// wrong are numbers that a part may not be: one beyond its bounds, and far beyond them.
func (p part) wrong() []int {
	all := []int{p.least - 1, p.greatest + 1, math.MinInt, math.MinInt + 1, -1 << 32, 1 << 32, 1 << 62, math.MaxInt}
	if p.least > 0 {
		all = append(all, -p.least, -p.greatest)
	}
	return all
}

// wantCheck is P9.1.
func wantCheck(g api.Grid) api.Errno {
	for _, p := range parts() {
		if n := *p.of(&g); n < p.least || n > p.greatest {
			return p.errno
		}
	}
	return 0
}

// wild are numbers of any kind: small ones, ones at the bounds of an int and of powers of 2, and random ones.
func wild(r *rand.Rand) int {
	switch r.IntN(4) {
	case 0:
		return r.IntN(60) - 30
	case 1:
		return r.IntN(1<<17) - 1<<16
	case 2:
		return 1<<r.IntN(64) + r.IntN(3) - 1
	}
	return int(r.Uint64())
}

func wildGrid(r *rand.Rand) api.Grid {
	return api.Grid{X: wild(r), Y: wild(r), Pitch: wild(r), W: wild(r), H: wild(r), Spread: wild(r)}
}

// validGrid is any grid of which nothing is wrong.
func validGrid(r *rand.Rand) api.Grid {
	var g api.Grid
	for _, p := range parts() {
		*p.of(&g) = p.least + r.IntN(p.greatest-p.least+1)
	}
	return g
}

// P9.1: Check.

func checkCheck(t *testing.T, g api.Grid, want api.Errno) {
	t.Helper()
	if got := Check(g); got != want {
		t.Errorf("Check(%+v) = %d, want %d", g, got, want)
	}
}

func TestCheckOfGrids(t *testing.T) {
	checkCheck(t, plain(), 0)
	checkCheck(t, api.Grid{}, api.ErrSize)
	checkCheck(t, api.Grid{W: 1, H: 1}, api.ErrArgument)
	checkCheck(t, api.Grid{W: 1, H: 1, Pitch: 1}, api.ErrArgument)
	checkCheck(t, api.Grid{W: 1, H: 1, Spread: 1}, api.ErrArgument)
	checkCheck(t, api.Grid{W: 1, H: 1, Pitch: 1, Spread: 1}, 0)
	checkCheck(t, api.Grid{X: -255, Y: -255, Pitch: 1, W: 1, H: 1, Spread: 1}, 0)
	checkCheck(t, api.Grid{X: 255, Y: 255, Pitch: 16, W: 24, H: 24, Spread: 64}, 0)
	// It may reach beyond 255.
	checkCheck(t, api.Grid{X: 255, Y: -255, Pitch: 16, W: 24, H: 24, Spread: 64}, 0)
}

func TestCheckOfEachPart(t *testing.T) {
	for _, p := range parts() {
		for _, n := range []int{p.least, p.least + 1, (p.least + p.greatest) / 2, p.greatest - 1, p.greatest} {
			g := plain()
			*p.of(&g) = n
			checkCheck(t, g, 0)
		}
		for _, n := range p.wrong() {
			g := plain()
			*p.of(&g) = n
			checkCheck(t, g, p.errno)
		}
	}
}

func TestCheckOfTwoWrongParts(t *testing.T) {
	for k, p := range parts() {
		for _, q := range parts()[k+1:] {
			for _, n := range p.wrong() {
				for _, m := range q.wrong() {
					g := plain()
					*p.of(&g), *q.of(&g) = n, m
					want := api.ErrArgument
					if p.errno == api.ErrSize || q.errno == api.ErrSize {
						want = api.ErrSize
					}
					checkCheck(t, g, want)
				}
			}
		}
	}
}

func TestCheckOfAnyGrids(t *testing.T) {
	r := rand.New(rand.NewPCG(9, 1))
	for range 50000 {
		g := wildGrid(r)
		checkCheck(t, g, wantCheck(g))
		g = validGrid(r)
		checkCheck(t, g, 0)
		p := parts()[r.IntN(6)]
		*p.of(&g) = wild(r)
		checkCheck(t, g, wantCheck(g))
	}
}

// P9.2: Centre.

func TestCentreExamples(t *testing.T) {
	for _, x := range []struct {
		g    api.Grid
		i, k int
		want api.Point
	}{
		{plain(), 0, 0, at(-48, 112)},
		{plain(), 1, 0, at(48, 112)},
		{plain(), 0, 1, at(-48, 208)},
		{plain(), 3, 1, at(240, 208)},
		// Outside of the grid, too.
		{plain(), -1, -1, at(-144, 16)},
		{plain(), 4, 2, at(336, 304)},
		// An odd and an even pitch, and the greatest one.
		{api.Grid{Pitch: 1, W: 3, H: 3, Spread: 1}, 0, 0, at(16, 16)},
		{api.Grid{Pitch: 1, W: 3, H: 3, Spread: 1}, 2, 1, at(80, 48)},
		{api.Grid{X: 5, Y: -7, Pitch: 2, W: 3, H: 3, Spread: 1}, 0, 0, at(192, -192)},
		{api.Grid{X: -255, Y: 255, Pitch: 16, W: 24, H: 24, Spread: 1}, 23, 23, at(3872, 20192)},
		// Neither the size nor the spread counts.
		{api.Grid{X: 1, Y: 1, Pitch: 4}, 2, 3, at(352, 480)},
		{api.Grid{}, 9, -9, at(0, 0)},
	} {
		if got := Centre(x.g, x.i, x.k); got != x.want {
			t.Errorf("Centre(%+v, %d, %d) = %v, want %v", x.g, x.i, x.k, got, x.want)
		}
	}
}

// wantMiddle is P9.2 in numbers of any size, of which the lowest 64 bits are left (W5).
func wantMiddle(start, pitch, index int) int {
	product := func(numbers ...int) *big.Int {
		n := big.NewInt(1)
		for _, m := range numbers {
			n.Mul(n, big.NewInt(int64(m)))
		}
		return n
	}
	sum := product(start, 32)
	sum.Add(sum, product(index, pitch, 32))
	sum.Add(sum, product(pitch, 16))
	sum.Mod(sum, new(big.Int).Lsh(big.NewInt(1), 64))
	return int(sum.Uint64())
}

func TestCentreOfAnyTexels(t *testing.T) {
	r := rand.New(rand.NewPCG(9, 2))
	for j := range 50000 {
		g, i, k := wildGrid(r), wild(r), wild(r)
		if j%2 == 0 {
			g = validGrid(r)
			i, k = r.IntN(g.W), r.IntN(g.H)
		}
		want := at(wantMiddle(g.X, g.Pitch, i), wantMiddle(g.Y, g.Pitch, k))
		if got := Centre(g, i, k); got != want {
			t.Fatalf("Centre(%+v, %d, %d) = %v, want %v", g, i, k, got, want)
		}
	}
}

// P9.2: Each.

// wantTexels is the columns and rows of so many texels, row by row.
func wantTexels(w, h int) [][2]int {
	var all [][2]int
	for n := 0; n < w*h; n++ {
		all = append(all, [2]int{n % w, n / w})
	}
	return all
}

// taken is what a function yields until it is told, with the given texel's number, to stop; it goes on to count what comes after that.
func taken(f func(yield func(i, k int) bool), last int) [][2]int {
	var all [][2]int
	f(func(i, k int) bool {
		all = append(all, [2]int{i, k})
		return len(all)-1 < last
	})
	return all
}

func TestEachToItsEnd(t *testing.T) {
	for w := 1; w <= 26; w++ {
		for h := 1; h <= 26; h++ {
			want := wantTexels(w, h)
			if got := taken(Each(sized(w, h)), w*h); !slices.Equal(got, want) {
				t.Fatalf("Each of %d, %d yields %v, want %v", w, h, got, want)
			}
		}
	}
	want := [][2]int{{0, 0}, {1, 0}, {2, 0}, {3, 0}, {0, 1}, {1, 1}, {2, 1}, {3, 1}}
	if got := taken(Each(plain()), 8); !slices.Equal(got, want) {
		t.Errorf("Each yields %v, want %v", got, want)
	}
}

// Left behind each of its texels: the first one, ones within a row and at its end, and the last one.
func TestEachLeft(t *testing.T) {
	for _, size := range [][2]int{{1, 1}, {5, 1}, {1, 5}, {4, 3}, {24, 24}} {
		w, h := size[0], size[1]
		for last := range w * h {
			want := wantTexels(w, h)[:last+1]
			if got := taken(Each(sized(w, h)), last); !slices.Equal(got, want) {
				t.Fatalf("Each of %d, %d yields %v, left behind number %d", w, h, got, last)
			}
		}
	}
}

func TestEachInALoop(t *testing.T) {
	var got [][2]int
	for i, k := range Each(sized(3, 4)) {
		if i == 1 {
			continue
		}
		got = append(got, [2]int{i, k})
		if i == 2 && k == 1 {
			break
		}
	}
	if want := [][2]int{{0, 0}, {2, 0}, {0, 1}, {2, 1}}; !slices.Equal(got, want) {
		t.Errorf("the loop takes %v, want %v", got, want)
	}
}

// A function that Each has returned begins anew with each call, wherever it was left before.
func TestEachCalledTwice(t *testing.T) {
	f := Each(sized(3, 2))
	for _, last := range []int{6, 6, 0, 6, 1, 2, 6, 3, 4, 5, 6} {
		want := wantTexels(3, 2)[:min(last+1, 6)]
		if got := taken(f, last); !slices.Equal(got, want) {
			t.Errorf("it yields %v, left behind number %d", got, last)
		}
	}
}

// Each within another one, and within itself, with the inner one left now and then.
func TestEachNested(t *testing.T) {
	outer := Each(sized(3, 2))
	for _, inner := range []func(yield func(i, k int) bool){Each(sized(2, 4)), outer} {
		want := taken(inner, 100)
		var around [][2]int
		for i, k := range outer {
			around = append(around, [2]int{i, k})
			last := (i + 2*k) % 5
			if got := taken(inner, last); !slices.Equal(got, want[:last+1]) {
				t.Errorf("at %d, %d the inner one yields %v, left behind number %d", i, k, got, last)
			}
		}
		if !slices.Equal(around, wantTexels(3, 2)) {
			t.Errorf("the outer one yields %v", around)
		}
	}
}

// The grid is that of the call of Each.
func TestEachKeepsItsGrid(t *testing.T) {
	g := sized(3, 2)
	f := Each(g)
	g.W, g.H = 1, 1
	if got := taken(f, 100); !slices.Equal(got, wantTexels(3, 2)) {
		t.Errorf("it yields %v", got)
	}
}

// Neither the place nor the spread counts, whatever is wrong of it.
func TestEachHangsOnTheSizeAlone(t *testing.T) {
	r := rand.New(rand.NewPCG(9, 3))
	for range 2000 {
		g := wildGrid(r)
		g.W, g.H = r.IntN(5), r.IntN(5)
		if got := taken(Each(g), 100); !slices.Equal(got, wantTexels(g.W, g.H)) {
			t.Errorf("Each(%+v) yields %v", g, got)
		}
	}
}

// Without columns or without rows there is nothing to yield, and the call ends, however many there are of the others.
func TestEachWithoutTexels(t *testing.T) {
	for _, none := range []int{0, -1, -24, math.MinInt} {
		for _, others := range []int{math.MinInt, -1, 0, 1, 24, 1 << 40, math.MaxInt} {
			for _, g := range []api.Grid{sized(none, others), sized(others, none)} {
				if got := taken(Each(g), 0); len(got) != 0 {
					t.Errorf("Each of %d, %d yields %v", g.W, g.H, got)
				}
			}
		}
	}
}

// A grid with more texels than anyone could take yields as many as are taken.
func TestEachOfHugeGrids(t *testing.T) {
	for _, g := range []api.Grid{sized(2, math.MaxInt), sized(25, 25), sized(math.MaxInt, math.MaxInt), sized(1<<32, 1<<32)} {
		want := wantTexels(min(g.W, 100), min(g.H, 100))[:100]
		if got := taken(Each(g), 99); !slices.Equal(got, want) {
			t.Errorf("Each of %d, %d yields %v, want %v", g.W, g.H, got, want)
		}
	}
}

// Any grids, with any number of texels taken.
func TestEachOfAnyGrids(t *testing.T) {
	r := rand.New(rand.NewPCG(9, 4))
	for range 20000 {
		g, most := wildGrid(r), r.IntN(50)
		got := taken(Each(g), most)
		want := 0
		if g.W > 0 && g.H > 0 {
			// Neither factor above 50, so that the product fits.
			want = min(min(g.W, 50)*min(g.H, 50), most+1)
		}
		if len(got) != want {
			t.Fatalf("Each(%+v) yields %d texels, want %d", g, len(got), want)
		}
		for n, texel := range got {
			if texel != [2]int{n % g.W, n / g.W} {
				t.Fatalf("Each(%+v) yields %v", g, got)
			}
		}
	}
}

// P9.2: At.

func checkAt(t *testing.T, f api.Field, i, k int, want byte, there bool) {
	t.Helper()
	before := bytes.Clone(f.Text)
	if got, ok := At(f, i, k); got != want || ok != there {
		t.Errorf("At(%v, %d, %d) = %d, %v, want %d, %v", f, i, k, got, ok, want, there)
	}
	if !bytes.Equal(f.Text, before) {
		t.Errorf("the bytes %v have become %v", before, f.Text)
	}
}

func TestAtExamples(t *testing.T) {
	f := api.Field{W: 3, H: 2, Text: []byte{10, 11, 12, 20, 0, 22}}
	for _, x := range []struct {
		i, k  int
		want  byte
		there bool
	}{
		// The first byte, the last one, the ends of the rows, and a byte that is 0.
		{0, 0, 10, true},
		{2, 1, 22, true},
		{2, 0, 12, true},
		{0, 1, 20, true},
		{1, 0, 11, true},
		{1, 1, 0, true},
		// One too few and one too many, also where another texel has that index.
		{-1, 0, 0, false},
		{-1, 1, 0, false},
		{0, -1, 0, false},
		{3, -1, 0, false},
		{3, 0, 0, false},
		{3, 1, 0, false},
		{0, 2, 0, false},
		{2, 2, 0, false},
		{-3, 2, 0, false},
		{-1, -1, 0, false},
		{3, 2, 0, false},
		{math.MinInt, 0, 0, false},
		{0, math.MinInt, 0, false},
		{math.MaxInt, 0, 0, false},
		{0, math.MaxInt, 0, false},
		{math.MinInt, math.MaxInt, 0, false},
	} {
		checkAt(t, f, x.i, x.k, x.want, x.there)
	}
}

// A Text that is shorter or longer than W * H.
func TestAtOfOtherLengths(t *testing.T) {
	const w, h = 3, 2
	for length := range 12 {
		text := make([]byte, length)
		for n := range text {
			text[n] = byte(200 - n)
		}
		f := api.Field{W: w, H: h, Text: text}
		for i := -2; i < w+3; i++ {
			for k := -2; k < h+3; k++ {
				n := k*w + i
				there := i >= 0 && i < w && k >= 0 && k < h && n < length
				want := byte(0)
				if there {
					want = byte(200 - n)
				}
				checkAt(t, f, i, k, want, there)
			}
		}
	}
}

// A capacity beyond the length holds no texels.
func TestAtBehindTheLength(t *testing.T) {
	text := []byte{1, 2, 3, 4}
	checkAt(t, api.Field{W: 2, H: 2, Text: text[:3]}, 1, 1, 0, false)
	checkAt(t, api.Field{W: 2, H: 2, Text: text[:3]}, 0, 1, 3, true)
	checkAt(t, api.Field{W: 2, H: 2, Text: text[1:3]}, 1, 0, 3, true)
}

func TestAtWithoutTexels(t *testing.T) {
	for _, f := range []api.Field{
		{},
		{W: 1, H: 1},
		{W: 1, H: 1, Text: []byte{}},
		{W: 0, H: 2, Text: []byte{7, 7}},
		{W: 2, H: 0, Text: []byte{7, 7}},
		{W: -1, H: 2, Text: []byte{7, 7}},
		{W: 2, H: -1, Text: []byte{7, 7}},
		{W: -1, H: -1, Text: []byte{7, 7}},
		{W: math.MinInt, H: 1, Text: []byte{7, 7}},
		{W: 1, H: math.MinInt, Text: []byte{7, 7}},
	} {
		for i := -3; i < 4; i++ {
			for k := -3; k < 4; k++ {
				checkAt(t, f, i, k, 0, false)
			}
		}
	}
}

func TestAtOfTheGreatestField(t *testing.T) {
	f := api.Field{W: 24, H: 24}
	for n := range 24 * 24 {
		f.Text = append(f.Text, byte(n*7))
	}
	for n, texel := range wantTexels(24, 24) {
		checkAt(t, f, texel[0], texel[1], byte(n*7), true)
	}
}

// Fields that say that they have more texels than there are bytes.
func TestAtOfHugeFields(t *testing.T) {
	text := []byte{5, 6, 7}
	checkAt(t, api.Field{W: math.MaxInt, H: 1, Text: text}, 2, 0, 7, true)
	checkAt(t, api.Field{W: math.MaxInt, H: 1, Text: text}, 3, 0, 0, false)
	checkAt(t, api.Field{W: math.MaxInt, H: 1, Text: text}, math.MaxInt-1, 0, 0, false)
	checkAt(t, api.Field{W: 1, H: math.MaxInt, Text: text}, 0, 2, 7, true)
	checkAt(t, api.Field{W: 1, H: math.MaxInt, Text: text}, 0, 3, 0, false)
	checkAt(t, api.Field{W: 1, H: math.MaxInt, Text: text}, 0, math.MaxInt-1, 0, false)
	checkAt(t, api.Field{W: 1 << 31, H: 1 << 31, Text: text}, 1<<31-1, 1<<31-1, 0, false)
	checkAt(t, api.Field{W: 1 << 31, H: 1 << 31, Text: text}, 2, 0, 7, true)
}

// Any fields and numbers: where W * H fits into an int, as P9.2 says; elsewhere only an answer (W1), and the same one again (W2).
func TestAtOfAnyFields(t *testing.T) {
	r := rand.New(rand.NewPCG(9, 5))
	for range 100000 {
		f := api.Field{W: wild(r), H: wild(r), Text: make([]byte, r.IntN(40))}
		for n := range f.Text {
			f.Text[n] = byte(r.IntN(256))
		}
		i, k := wild(r), wild(r)
		texels := new(big.Int).Mul(big.NewInt(int64(f.W)), big.NewInt(int64(f.H)))
		if !texels.IsInt64() {
			got, ok := At(f, i, k)
			checkAt(t, f, i, k, got, ok)
			continue
		}
		index := new(big.Int).Mul(big.NewInt(int64(k)), big.NewInt(int64(f.W)))
		index.Add(index, big.NewInt(int64(i)))
		want, there := byte(0), i >= 0 && k >= 0 && i < f.W && k < f.H && index.Cmp(big.NewInt(int64(len(f.Text)))) < 0
		if there {
			want = f.Text[index.Int64()]
		}
		checkAt(t, f, i, k, want, there)
	}
}

// P9.3: Code.

func checkCode(t *testing.T, g api.Grid, sign, eight int, want byte) {
	t.Helper()
	if got := Code(g, sign, eight); got != want {
		t.Errorf("Code with the spread %d of %d, %d = %d, want %d", g.Spread, sign, eight, got, want)
	}
}

// checkCodes is checkCode of each sign, with the number of steps from 128.
func checkCodes(t *testing.T, g api.Grid, eight int, steps byte) {
	t.Helper()
	checkCode(t, g, 1, eight, 128+steps)
	checkCode(t, g, 0, eight, 128)
	checkCode(t, g, -1, eight, 128-steps)
}

// The chapter's example.
func TestCodeExample(t *testing.T) {
	for s := 1; s <= 64; s++ {
		checkCode(t, spread(s), 1, 0, 128)
	}
}

// The example of the document's first page: a spread of 8 units, 10 units inside and 4 units outside.
func TestCodeOfTheFirstPage(t *testing.T) {
	checkCode(t, spread(8), 1, 8*10*32, 255)
	checkCode(t, spread(8), -1, 8*4*32, 65)
}

func TestCodeExamples(t *testing.T) {
	for _, x := range []struct {
		spread, eight int
		steps         byte
	}{
		// The least spread, with a far of 256.
		{1, 0, 0},
		{1, 2, 0},
		{1, 3, 1},
		{1, 128, 63},
		{1, 255, 126},
		{1, 256, 127},
		{1, 257, 127},
		{1, 1 << 30, 127},
		{1, math.MaxInt, 127},
		// One between, with a far of 1280.
		{5, 0, 0},
		{5, 10, 0},
		{5, 11, 1},
		{5, 20, 1},
		{5, 21, 2},
		{5, 640, 63},
		{5, 1269, 125},
		{5, 1270, 126},
		{5, 1279, 126},
		{5, 1280, 127},
		{5, 1281, 127},
		{5, math.MaxInt, 127},
		// The greatest one, with a far of 16384.
		{64, 0, 0},
		{64, 129, 0},
		{64, 130, 1},
		{64, 8192, 63},
		{64, 16254, 125},
		{64, 16255, 126},
		{64, 16383, 126},
		{64, 16384, 127},
		{64, 16385, 127},
		{64, 463409, 127},
		{64, math.MaxInt, 127},
	} {
		checkCodes(t, spread(x.spread), x.eight, x.steps)
	}
}

// Each distance of each spread, by counting: the number of steps is one more wherever a whole one is reached.
func TestCodeOfEachDistance(t *testing.T) {
	for s := 1; s <= 64; s++ {
		g, far, steps := spread(s), 256*s, 0
		for eight := 0; eight <= far+300; eight++ {
			for steps < 127 && (steps+1)*far <= eight*127 {
				steps++
			}
			checkCodes(t, g, eight, byte(steps))
		}
		if steps != 127 {
			t.Errorf("%d steps of the spread %d", steps, s)
		}
	}
}

// Of a grid only the spread counts.
func TestCodeOfAnyGrids(t *testing.T) {
	r := rand.New(rand.NewPCG(9, 6))
	for range 20000 {
		g := validGrid(r)
		sign, eight := r.IntN(3)-1, r.IntN(300*g.Spread)
		want := 128 + sign*127
		if far := 256 * g.Spread; eight < far {
			want = 128 + sign*int(new(big.Int).Quo(big.NewInt(int64(eight*127)), big.NewInt(int64(far))).Int64())
		}
		checkCode(t, g, sign, eight, byte(want))
	}
}

// Where nothing is promised, Code answers (W1), the same each time (W2): of spreads by which nothing can be divided, too.
func TestCodeBeyondTheBounds(t *testing.T) {
	r := rand.New(rand.NewPCG(9, 7))
	numbers := []int{math.MinInt, math.MinInt + 1, -1 << 56, -257, -256, -2, -1, 0, 1, 2, 256, 1 << 55, 1 << 56, 1 << 62, math.MaxInt}
	for k := range 50000 {
		number := func() int { return numbers[r.IntN(len(numbers))] }
		if k%2 == 0 {
			number = func() int { return wild(r) }
		}
		g := wildGrid(r)
		g.Spread = number()
		sign, eight := number(), number()
		checkCode(t, g, sign, eight, Code(g, sign, eight))
	}
}

// P9.4: Around.

func checkAround(t *testing.T, lo, hi api.Point, pitch, spread, more int, want api.Grid, errno api.Errno) {
	t.Helper()
	if got, e := Around(lo, hi, pitch, spread, more); got != want || e != errno {
		t.Errorf("Around(%v, %v, %d, %d, %d) = %+v, %d, want %+v, %d", lo, hi, pitch, spread, more, got, e, want, errno)
	}
}

func TestAroundExamples(t *testing.T) {
	for _, x := range []struct {
		lo, hi              api.Point
		pitch, spread, more int
		want                api.Grid
	}{
		{at(0, 0), at(0, 0), 1, 1, 0, api.Grid{X: 0, Y: 0, Pitch: 1, W: 1, H: 1, Spread: 1}},
		{at(0, 0), at(640, 640), 4, 8, 2, api.Grid{X: -8, Y: -8, Pitch: 4, W: 10, H: 10, Spread: 8}},
		// X and Y, and the least and the greatest point, each with its own number.
		{at(70, 300), at(200, 390), 2, 9, 0, api.Grid{X: 2, Y: 8, Pitch: 2, W: 3, H: 3, Spread: 9}},
		{at(70, -300), at(200, 90), 2, 9, 1, api.Grid{X: 0, Y: -12, Pitch: 2, W: 5, H: 9, Spread: 9}},
		// Below 0: a quotient is rounded down.
		{at(-1, -64), at(-1, -1), 2, 9, 0, api.Grid{X: -2, Y: -2, Pitch: 2, W: 1, H: 1, Spread: 9}},
		{at(-200, -100), at(-65, -70), 2, 9, 0, api.Grid{X: -8, Y: -4, Pitch: 2, W: 3, H: 1, Spread: 9}},
		// Multiples of the width, and one beside them.
		{at(-64, -64), at(64, 64), 2, 9, 0, api.Grid{X: -2, Y: -2, Pitch: 2, W: 3, H: 3, Spread: 9}},
		{at(-65, -63), at(65, 63), 2, 9, 0, api.Grid{X: -4, Y: -2, Pitch: 2, W: 4, H: 2, Spread: 9}},
		{at(63, 64), at(127, 128), 2, 9, 0, api.Grid{X: 0, Y: 2, Pitch: 2, W: 2, H: 2, Spread: 9}},
		{at(65, -128), at(65, -128), 2, 9, 0, api.Grid{X: 2, Y: -4, Pitch: 2, W: 1, H: 1, Spread: 9}},
		{at(-129, -127), at(-129, -127), 2, 9, 0, api.Grid{X: -6, Y: -4, Pitch: 2, W: 1, H: 1, Spread: 9}},
		// The least and the greatest pitch, and a width that is no power of 2.
		{at(-33, -32), at(31, 32), 1, 64, 0, api.Grid{X: -2, Y: -1, Pitch: 1, W: 3, H: 3, Spread: 64}},
		{at(-513, -512), at(511, 512), 16, 64, 0, api.Grid{X: -32, Y: -16, Pitch: 16, W: 3, H: 3, Spread: 64}},
		{at(-97, 95), at(-96, 96), 3, 1, 1, api.Grid{X: -9, Y: -3, Pitch: 3, W: 4, H: 4, Spread: 1}},
		// The most texels, and the most that a place may have more.
		{at(0, 0), at(767, 767), 1, 5, 0, api.Grid{X: 0, Y: 0, Pitch: 1, W: 24, H: 24, Spread: 5}},
		{at(0, 0), at(0, 0), 1, 5, 11, api.Grid{X: -11, Y: -11, Pitch: 1, W: 23, H: 23, Spread: 5}},
		{at(0, 0), at(32, 63), 1, 5, 11, api.Grid{X: -11, Y: -11, Pitch: 1, W: 24, H: 24, Spread: 5}},
		// The greatest point below the least one: as the numbers come out.
		{at(32, 64), at(0, 0), 1, 5, 2, api.Grid{X: -1, Y: 0, Pitch: 1, W: 4, H: 3, Spread: 5}},
		{at(800, 1536), at(31, 0), 1, 5, 24, api.Grid{X: 1, Y: 24, Pitch: 1, W: 24, H: 1, Spread: 5}},
		// X and Y at their bounds.
		{at(-255*32, 255*32), at(-255*32, 255*32), 1, 5, 0, api.Grid{X: -255, Y: 255, Pitch: 1, W: 1, H: 1, Spread: 5}},
	} {
		checkAround(t, x.lo, x.hi, x.pitch, x.spread, x.more, x.want, 0)
	}
}

func TestAroundOfNoGrid(t *testing.T) {
	for _, x := range []struct {
		lo, hi              api.Point
		pitch, spread, more int
		errno               api.Errno
	}{
		// A pitch and a number of texels more that may not be.
		{at(0, 0), at(0, 0), 0, 9, 0, api.ErrArgument},
		{at(0, 0), at(0, 0), 17, 9, 0, api.ErrArgument},
		{at(0, 0), at(0, 0), -1, 9, 0, api.ErrArgument},
		{at(0, 0), at(0, 0), math.MinInt, 9, 0, api.ErrArgument},
		{at(0, 0), at(0, 0), math.MaxInt, 9, 0, api.ErrArgument},
		{at(0, 0), at(0, 0), 1 << 59, 9, 0, api.ErrArgument},
		{at(0, 0), at(0, 0), 1, 9, -1, api.ErrArgument},
		{at(0, 0), at(0, 0), 1, 9, 25, api.ErrArgument},
		{at(0, 0), at(0, 0), 1, 9, math.MinInt, api.ErrArgument},
		{at(0, 0), at(0, 0), 1, 9, math.MaxInt, api.ErrArgument},
		// These come first, also where there would be too many texels.
		{at(0, 0), at(8000, 0), 0, 9, 0, api.ErrArgument},
		{at(0, 0), at(8000, 0), 17, 9, 0, api.ErrArgument},
		{at(0, 0), at(8000, 0), 1, 9, -1, api.ErrArgument},
		{at(0, 0), at(8000, 0), 1, 9, 25, api.ErrArgument},
		{at(800, 800), at(0, 0), 1, 9, 25, api.ErrArgument},
		{at(0, 0), at(8000, 0), 0, 0, 25, api.ErrArgument},
		// Too many texels, in one direction and in both.
		{at(0, 0), at(768, 0), 1, 9, 0, api.ErrSize},
		{at(0, 0), at(0, 768), 1, 9, 0, api.ErrSize},
		{at(0, 0), at(768, 768), 1, 9, 0, api.ErrSize},
		{at(-1, 0), at(767, 0), 1, 9, 0, api.ErrSize},
		{at(0, -1), at(0, 767), 1, 9, 0, api.ErrSize},
		{at(0, 0), at(64, 0), 1, 9, 11, api.ErrSize},
		{at(0, 0), at(0, 0), 1, 9, 12, api.ErrSize},
		{at(0, 0), at(0, 0), 1, 9, 24, api.ErrSize},
		{at(0, 0), at(0, 0), 16, 9, 24, api.ErrSize},
		{at(-1<<15, -1<<15), at(1<<15, 1<<15), 16, 9, 0, api.ErrSize},
		// None at all.
		{at(32, 0), at(0, 0), 1, 9, 0, api.ErrSize},
		{at(0, 32), at(0, 0), 1, 9, 0, api.ErrSize},
		{at(1<<15, 1<<15), at(-1<<15, -1<<15), 1, 9, 24, api.ErrSize},
		// They come before a place and a spread that may not be.
		{at(9000, 0), at(9800, 0), 1, 9, 0, api.ErrSize},
		{at(0, 0), at(768, 0), 1, 0, 0, api.ErrSize},
		{at(0, 0), at(768, 0), 1, 65, 0, api.ErrSize},
		// A place beyond the bounds, by itself and by what it has more.
		{at(256*32, 0), at(256*32, 0), 1, 9, 0, api.ErrArgument},
		{at(0, 256*32), at(0, 256*32), 1, 9, 0, api.ErrArgument},
		{at(-255*32-1, 0), at(-255*32, 0), 1, 9, 0, api.ErrArgument},
		{at(0, -255*32-1), at(0, -255*32), 1, 9, 0, api.ErrArgument},
		{at(-255*32, 0), at(-255*32, 0), 1, 9, 1, api.ErrArgument},
		{at(0, -255*32), at(0, -255*32), 1, 9, 1, api.ErrArgument},
		{at(-1<<15, -1<<15), at(-1<<15, -1<<15), 16, 9, 0, api.ErrArgument},
		{at(1<<15, 1<<15), at(1<<15, 1<<15), 16, 9, 0, api.ErrArgument},
		// A spread that may not be.
		{at(0, 0), at(0, 0), 1, 0, 0, api.ErrArgument},
		{at(0, 0), at(0, 0), 1, 65, 0, api.ErrArgument},
		{at(0, 0), at(0, 0), 1, -1, 0, api.ErrArgument},
		{at(0, 0), at(0, 0), 1, math.MinInt, 0, api.ErrArgument},
		{at(0, 0), at(0, 0), 1, math.MaxInt, 0, api.ErrArgument},
	} {
		checkAround(t, x.lo, x.hi, x.pitch, x.spread, x.more, api.Grid{}, x.errno)
	}
}

// What may be had more is from 0 to 24, with each pitch.
func TestAroundWithEachPitchAndMore(t *testing.T) {
	for pitch := -2; pitch <= 20; pitch++ {
		for more := -3; more <= 30; more++ {
			// So far below the least point that there are four texels, whatever is added at each side.
			lo, hi := at(2*more*32*pitch, 2*more*32*pitch), at(3*32*pitch, 3*32*pitch)
			want, errno := api.Grid{X: more * pitch, Y: more * pitch, Pitch: pitch, W: 4, H: 4, Spread: 7}, api.Errno(0)
			if pitch < 1 || pitch > 16 || more < 0 || more > 24 || more*pitch > 255 {
				want, errno = api.Grid{}, api.ErrArgument
			}
			checkAround(t, lo, hi, pitch, 7, more, want, errno)
		}
	}
}

// wantAround is P9.4, with quotients of floats, which are exact enough for such small numbers: they are no less than 1 / 512 away from a whole number that they are not.
func wantAround(lo, hi api.Point, pitch, spread, more int) (api.Grid, api.Errno) {
	if pitch < 1 || pitch > 16 || more < 0 || more > 24 {
		return api.Grid{}, api.ErrArgument
	}
	down := func(n int) int { return int(math.Floor(float64(n) / float64(32*pitch))) }
	x, y := down(lo.X)-more, down(lo.Y)-more
	g := api.Grid{X: x * pitch, Y: y * pitch, Pitch: pitch, W: down(hi.X) + more + 1 - x, H: down(hi.Y) + more + 1 - y, Spread: spread}
	if errno := wantCheck(g); errno != 0 {
		return api.Grid{}, errno
	}
	return g, 0
}

func TestAroundOfAnyPoints(t *testing.T) {
	r := rand.New(rand.NewPCG(9, 8))
	answers := map[api.Errno]int{}
	for j := range 200000 {
		pitch, spread, more := r.IntN(20)-1, r.IntN(68)-1, r.IntN(28)-1
		most := []int{100, 1000, 9000, 1 << 15}[r.IntN(4)]
		coord := func() int { return r.IntN(2*most+1) - most }
		if j%2 == 0 && pitch > 0 {
			// Multiples of the width, and one beside them.
			coord = func() int { return (r.IntN(21)-10)*32*pitch + r.IntN(3) - 1 }
		}
		lo, hi := at(coord(), coord()), at(coord(), coord())
		want, errno := wantAround(lo, hi, pitch, spread, more)
		checkAround(t, lo, hi, pitch, spread, more, want, errno)
		answers[errno]++
	}
	for _, errno := range []api.Errno{0, api.ErrArgument, api.ErrSize} {
		if answers[errno] < 1000 {
			t.Errorf("too few answers of each kind: %v", answers)
		}
	}
}

// A grid that is returned has each point between the two in one of its texels, and as many beside them as are asked for.
func TestAroundHoldsItsPlace(t *testing.T) {
	r := rand.New(rand.NewPCG(9, 9))
	for range 50000 {
		pitch, more := 1+r.IntN(16), r.IntN(8)
		lo := at(r.IntN(4000)-2000, r.IntN(4000)-2000)
		hi := at(lo.X+r.IntN(1500), lo.Y+r.IntN(1500))
		g, errno := Around(lo, hi, pitch, 3, more)
		if errno != 0 {
			continue
		}
		least, greatest := Centre(g, more, more), Centre(g, g.W-1-more, g.H-1-more)
		half := 16 * pitch
		for _, x := range [][2]int{{lo.X, least.X}, {lo.Y, least.Y}, {hi.X, greatest.X}, {hi.Y, greatest.Y}} {
			if x[0] < x[1]-half || x[0] >= x[1]+half {
				t.Fatalf("Around(%v, %v, %d, 3, %d) = %+v", lo, hi, pitch, more, g)
			}
		}
	}
}

// Beyond the bounds Around answers (W1), the same each time (W2).
func TestAroundBeyondTheBounds(t *testing.T) {
	r := rand.New(rand.NewPCG(9, 10))
	for k := range 100000 {
		pitch, spread, more := wild(r), wild(r), wild(r)
		if k%2 == 0 {
			pitch, more = 1+r.IntN(16), r.IntN(25)
		}
		lo, hi := at(wild(r), wild(r)), at(wild(r), wild(r))
		g, errno := Around(lo, hi, pitch, spread, more)
		checkAround(t, lo, hi, pitch, spread, more, g, errno)
		if errno != 0 && g != (api.Grid{}) {
			t.Fatalf("Around(%v, %v, %d, %d, %d) = %+v with the error %d", lo, hi, pitch, spread, more, g, errno)
		}
	}
}
