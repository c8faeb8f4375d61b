package wide

import (
	"math"
	"math/big"
	"testing"

	"punchcut/api"
)

const top = math.MaxUint64

// Values at which a carry, a half or a sign goes wrong first.
var words = []uint64{
	0, 1, 2, 3, 5, 10, 255, 1<<31 - 1, 1 << 31, 1<<32 - 1, 1 << 32, 1<<32 + 1,
	1<<63 - 1, 1 << 63, 1<<63 + 1, top - 1, top,
	0x9e3779b97f4a7c15, 0xbf58476d1ce4e5b9, 1844674407370955161,
}

var ints = []int{
	0, 1, 2, 3, 7, 1<<31 - 1, 1 << 31, 3037000499, 3037000500, 1 << 32, 1<<32 + 1,
	1 << 62, 1<<62 + 1, math.MaxInt - 1, math.MaxInt,
	-1, -2, -3, -7, -1 << 31, -1<<31 - 1, -3037000499, -3037000500, -1 << 32,
	-1 << 62, -1<<62 - 1, math.MinInt + 1, math.MinInt,
}

func pairs() []Pair {
	var all []Pair
	for _, hi := range words {
		for _, lo := range words {
			all = append(all, Pair{Hi: hi, Lo: lo})
		}
	}
	return all
}

func bigOf(n uint64) *big.Int { return new(big.Int).SetUint64(n) }

func bigPair(p Pair) *big.Int {
	v := new(big.Int).Lsh(bigOf(p.Hi), 64)
	return v.Add(v, bigOf(p.Lo))
}

func bigInt(n int) *big.Int { return big.NewInt(int64(n)) }

// P1.1: Mul.

func TestMulExamples(t *testing.T) {
	for _, x := range []struct {
		a, b uint64
		want Pair
	}{
		{1 << 63, 4, Pair{Hi: 2}},
		{0, 0, Pair{}},
		{0, top, Pair{}},
		{6, 7, Pair{Lo: 42}},
		{1 << 32, 1 << 32, Pair{Hi: 1}},
		{1 << 63, 2, Pair{Hi: 1}},
		{1<<32 - 1, 1<<32 + 1, Pair{Lo: top}},
		{top, 1, Pair{Lo: top}},
		{top, 2, Pair{Hi: 1, Lo: top - 1}},
		{1 << 63, 1 << 63, Pair{Hi: 1 << 62}},
		{top, top, Pair{Hi: top - 1, Lo: 1}},
	} {
		if got := Mul(x.a, x.b); got != x.want {
			t.Errorf("Mul(%d, %d) = %v, want %v", x.a, x.b, got, x.want)
		}
		if got := Mul(x.b, x.a); got != x.want {
			t.Errorf("Mul(%d, %d) = %v, want %v", x.b, x.a, got, x.want)
		}
	}
}

func TestMulIsExact(t *testing.T) {
	for _, a := range words {
		for _, b := range words {
			want := new(big.Int).Mul(bigOf(a), bigOf(b))
			if got := Mul(a, b); bigPair(got).Cmp(want) != 0 {
				t.Errorf("Mul(%d, %d) = %v, want %v", a, b, got, want)
			}
		}
	}
}

// P1.1: Compare.

func TestCompareExamples(t *testing.T) {
	for _, x := range []struct {
		p, q Pair
		want int
	}{
		{Pair{}, Pair{}, 0},
		{Pair{Lo: 3}, Pair{Lo: 9}, -1},
		{Pair{Lo: 9}, Pair{Lo: 3}, 1},
		{Pair{Hi: 1}, Pair{Lo: top}, 1},
		{Pair{Hi: 1, Lo: 9}, Pair{Hi: 2, Lo: 3}, -1},
		{Pair{Hi: 5, Lo: 1}, Pair{Hi: 5, Lo: 2}, -1},
		{Pair{Lo: 1 << 63}, Pair{Lo: 1<<63 - 1}, 1},
		{Pair{Hi: 1 << 63}, Pair{Hi: 1<<63 - 1, Lo: top}, 1},
		{Pair{Hi: top, Lo: top}, Pair{Hi: top, Lo: top}, 0},
		{Pair{Hi: top, Lo: top}, Pair{}, 1},
	} {
		if got := x.p.Compare(x.q); got != x.want {
			t.Errorf("%v.Compare(%v) = %d, want %d", x.p, x.q, got, x.want)
		}
	}
}

func TestCompareIsExact(t *testing.T) {
	for _, p := range pairs() {
		for _, q := range pairs() {
			if got, want := p.Compare(q), bigPair(p).Cmp(bigPair(q)); got != want {
				t.Fatalf("%v.Compare(%v) = %d, want %d", p, q, got, want)
			}
		}
	}
}

// P1.1: Plus.

func TestPlusExamples(t *testing.T) {
	for _, x := range []struct {
		p, q, want Pair
		over       bool
	}{
		{Pair{}, Pair{}, Pair{}, false},
		{Pair{Hi: 1, Lo: 2}, Pair{Hi: 3, Lo: 4}, Pair{Hi: 4, Lo: 6}, false},
		{Pair{Lo: top}, Pair{Lo: 1}, Pair{Hi: 1}, false},
		{Pair{Lo: 1 << 63}, Pair{Lo: 1 << 63}, Pair{Hi: 1}, false},
		{Pair{Hi: top}, Pair{Lo: top}, Pair{Hi: top, Lo: top}, false},
		{Pair{Hi: top, Lo: top}, Pair{Lo: 1}, Pair{}, true},
		{Pair{Hi: 1 << 63}, Pair{Hi: 1 << 63}, Pair{}, true},
		{Pair{Hi: top, Lo: 7}, Pair{Hi: 2, Lo: 8}, Pair{Hi: 1, Lo: 15}, true},
		{Pair{Hi: top, Lo: top}, Pair{Hi: top, Lo: top}, Pair{Hi: top, Lo: top - 1}, true},
	} {
		if got, over := x.p.Plus(x.q); got != x.want || over != x.over {
			t.Errorf("%v.Plus(%v) = %v, %t, want %v, %t", x.p, x.q, got, over, x.want, x.over)
		}
	}
}

func TestPlusIsExact(t *testing.T) {
	bound := new(big.Int).Lsh(big.NewInt(1), 128)
	for _, p := range pairs() {
		for _, q := range pairs() {
			sum := new(big.Int).Add(bigPair(p), bigPair(q))
			wantOver := sum.Cmp(bound) >= 0
			want := sum.Mod(sum, bound)
			if got, over := p.Plus(q); bigPair(got).Cmp(want) != 0 || over != wantOver {
				t.Fatalf("%v.Plus(%v) = %v, %t, want %v, %t", p, q, got, over, want, wantOver)
			}
		}
	}
}

// P1.2: Div.

func TestDivExamples(t *testing.T) {
	for _, x := range []struct {
		p                   Pair
		d                   uint64
		quotient, remainder uint64
		errno               api.Errno
	}{
		{Pair{}, 7, 0, 0, 0},
		{Pair{Lo: 42}, 5, 8, 2, 0},
		{Pair{Lo: 4}, 5, 0, 4, 0},
		{Pair{Hi: 1}, 10, 1844674407370955161, 6, 0},
		{Pair{Hi: 1}, 2, 1 << 63, 0, 0},
		{Pair{Hi: 1}, top, 1, 1, 0},
		{Pair{Lo: top}, 1, top, 0, 0},
		{Pair{Hi: 1, Lo: top}, 2, top, 1, 0},
		{Pair{Hi: top - 1, Lo: 1}, top, top, 0, 0},
		{Pair{Hi: top - 1, Lo: top}, top, top, top - 1, 0},
		{Pair{Hi: 1}, 1, 0, 0, api.ErrOver},
		{Pair{Hi: 2}, 2, 0, 0, api.ErrOver},
		{Pair{Hi: 7, Lo: 3}, 7, 0, 0, api.ErrOver},
		{Pair{Hi: top}, top, 0, 0, api.ErrOver},
		{Pair{Hi: top, Lo: top}, 3, 0, 0, api.ErrOver},
		{Pair{}, 0, 0, 0, api.ErrOver},
		{Pair{Lo: 42}, 0, 0, 0, api.ErrOver},
		{Pair{Hi: top, Lo: top}, 0, 0, 0, api.ErrOver},
	} {
		quotient, remainder, errno := x.p.Div(x.d)
		if quotient != x.quotient || remainder != x.remainder || errno != x.errno {
			t.Errorf("%v.Div(%d) = %d, %d, %d, want %d, %d, %d", x.p, x.d,
				quotient, remainder, int(errno), x.quotient, x.remainder, int(x.errno))
		}
	}
}

// wantDiv is P1.2, word for word, in numbers of any size.
func wantDiv(p Pair, d uint64) (uint64, uint64, api.Errno) {
	if d == 0 {
		return 0, 0, api.ErrOver
	}
	quotient, remainder := new(big.Int).QuoRem(bigPair(p), bigOf(d), new(big.Int))
	if !quotient.IsUint64() {
		return 0, 0, api.ErrOver
	}
	return quotient.Uint64(), remainder.Uint64(), 0
}

func TestDivIsExact(t *testing.T) {
	for _, p := range pairs() {
		for _, d := range words {
			quotient, remainder, errno := p.Div(d)
			wantQuotient, wantRemainder, wantErrno := wantDiv(p, d)
			if quotient != wantQuotient || remainder != wantRemainder || errno != wantErrno {
				t.Errorf("%v.Div(%d) = %d, %d, %d, want %d, %d, %d", p, d,
					quotient, remainder, int(errno), wantQuotient, wantRemainder, int(wantErrno))
			}
		}
	}
}

// P1.3: Add and Times.

func TestAddExamples(t *testing.T) {
	for _, x := range []struct {
		a, b, want int
		fits       bool
	}{
		{0, 0, 0, true},
		{2, 3, 5, true},
		{-5, 3, -2, true},
		{math.MaxInt, 0, math.MaxInt, true},
		{math.MaxInt - 1, 1, math.MaxInt, true},
		{math.MaxInt, math.MinInt, -1, true},
		{math.MinInt, 0, math.MinInt, true},
		{math.MinInt + 1, -1, math.MinInt, true},
		{math.MaxInt, 1, math.MinInt, false},
		{math.MaxInt, math.MaxInt, -2, false},
		{math.MinInt, -1, math.MaxInt, false},
		{math.MinInt, math.MinInt, 0, false},
	} {
		if got, fits := Add(x.a, x.b); got != x.want || fits != x.fits {
			t.Errorf("Add(%d, %d) = %d, %t, want %d, %t", x.a, x.b, got, fits, x.want, x.fits)
		}
		if got, fits := Add(x.b, x.a); got != x.want || fits != x.fits {
			t.Errorf("Add(%d, %d) = %d, %t, want %d, %t", x.b, x.a, got, fits, x.want, x.fits)
		}
	}
}

func TestTimesExamples(t *testing.T) {
	for _, x := range []struct {
		a, b, want int
		fits       bool
	}{
		{0, 0, 0, true},
		{6, 7, 42, true},
		{-6, 7, -42, true},
		{-6, -7, 42, true},
		{0, math.MinInt, 0, true},
		{0, math.MaxInt, 0, true},
		{1, math.MinInt, math.MinInt, true},
		{-1, math.MaxInt, math.MinInt + 1, true},
		{1 << 31, 1 << 31, 1 << 62, true},
		{1 << 31, -1 << 32, math.MinInt, true},
		{-1, math.MinInt, math.MinInt, false},
		{1 << 31, 1 << 32, math.MinInt, false},
		{-1 << 31, -1 << 32, math.MinInt, false},
		{1 << 32, 1 << 32, 0, false},
		{2, math.MaxInt, -2, false},
		{2, math.MinInt, 0, false},
		{math.MaxInt, math.MaxInt, 1, false},
		{math.MinInt, math.MinInt, 0, false},
		{math.MaxInt, math.MinInt, math.MinInt, false},
	} {
		if got, fits := Times(x.a, x.b); got != x.want || fits != x.fits {
			t.Errorf("Times(%d, %d) = %d, %t, want %d, %t", x.a, x.b, got, fits, x.want, x.fits)
		}
		if got, fits := Times(x.b, x.a); got != x.want || fits != x.fits {
			t.Errorf("Times(%d, %d) = %d, %t, want %d, %t", x.b, x.a, got, fits, x.want, x.fits)
		}
	}
}

func TestAddAndTimesAreExact(t *testing.T) {
	for _, a := range ints {
		for _, b := range ints {
			wantFits := new(big.Int).Add(bigInt(a), bigInt(b)).IsInt64()
			if got, fits := Add(a, b); got != a+b || fits != wantFits {
				t.Errorf("Add(%d, %d) = %d, %t, want %d, %t", a, b, got, fits, a+b, wantFits)
			}
			wantFits = new(big.Int).Mul(bigInt(a), bigInt(b)).IsInt64()
			if got, fits := Times(a, b); got != a*b || fits != wantFits {
				t.Errorf("Times(%d, %d) = %d, %t, want %d, %t", a, b, got, fits, a*b, wantFits)
			}
		}
	}
}

// P1.3: Less.

func TestLessExamples(t *testing.T) {
	for _, x := range []struct{ a, b, c, d, want int }{
		{0, 5, 0, 7, 0},
		{0, 5, 1, 7, -1},
		{1, 2, 2, 4, 0},
		{1, 3, 1, 2, -1},
		{7, 2, 10, 3, 1},
		{7, 3, 5, 2, -1},
		{math.MaxInt, 2, math.MaxInt, 3, 1},
		{math.MaxInt, math.MaxInt, 1, 1, 0},
		{1, math.MaxInt, 1, math.MaxInt - 1, -1},
		{math.MaxInt - 1, math.MaxInt, math.MaxInt - 2, math.MaxInt - 1, 1},
		{1 << 32, 1, 1, 1 << 32, 1},
		{math.MaxInt, 1, 1, math.MaxInt, 1},
	} {
		if got := Less(x.a, x.b, x.c, x.d); got != x.want {
			t.Errorf("Less(%d, %d, %d, %d) = %d, want %d", x.a, x.b, x.c, x.d, got, x.want)
		}
		if got := Less(x.c, x.d, x.a, x.b); got != -x.want {
			t.Errorf("Less(%d, %d, %d, %d) = %d, want %d", x.c, x.d, x.a, x.b, got, -x.want)
		}
	}
}

// fractions are all quotients of ints that P1.3 speaks of.
func fractions() [][2]int {
	var all [][2]int
	for _, num := range ints {
		for _, den := range ints {
			if num >= 0 && den >= 1 {
				all = append(all, [2]int{num, den})
			}
		}
	}
	return all
}

func TestLessIsExact(t *testing.T) {
	for _, f := range fractions() {
		for _, g := range fractions() {
			want := big.NewRat(int64(f[0]), int64(f[1])).Cmp(big.NewRat(int64(g[0]), int64(g[1])))
			if got := Less(f[0], f[1], g[0], g[1]); got != want {
				t.Fatalf("Less(%d, %d, %d, %d) = %d, want %d", f[0], f[1], g[0], g[1], got, want)
			}
		}
	}
}
