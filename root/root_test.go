package root

import (
	"math"
	"math/big"
	"testing"

	"punchcut/api"
)

// greatestRoot is the root of the greatest int, rounded down.
const greatestRoot = 3037000499

// Values at which a sign, a square, a half or the greatest int goes wrong first.
var ints = []int{
	0, 1, 2, 3, 4, 5, 6, 7, 12, 90, 255, 1 << 16, 1<<20 - 1, 1 << 20, 1<<20 + 1,
	1<<31 - 1, 1 << 31, greatestRoot - 1, greatestRoot, greatestRoot + 1, 1<<32 - 1, 1 << 32, 1<<32 + 1,
	1 << 40, 1000000007 * 998244353, 1 << 61, 1<<62 - 1, 1 << 62, 1<<62 + 1, 3 << 61,
	math.MaxInt - 2, math.MaxInt - 1, math.MaxInt,
	-1, -2, -3, -7, -255, -1 << 20, -1 << 31, -1<<32 - 1, -1 << 62, math.MinInt + 1, math.MinInt,
}

// fractions are all fractions of those values that P2.2 speaks of, in their least form or not.
func fractions() []api.Frac {
	var all []api.Frac
	for _, num := range ints {
		for _, den := range ints {
			if num >= 0 && den >= 1 {
				all = append(all, api.Frac{Num: num, Den: den})
			}
		}
	}
	return all
}

func bigInt(n int) *big.Int { return big.NewInt(int64(n)) }

func bigFrac(f api.Frac) *big.Rat { return big.NewRat(int64(f.Num), int64(f.Den)) }

// P2.1: Sqrt.

func TestSqrtExamples(t *testing.T) {
	for _, x := range []struct{ n, want int }{
		{0, 0},
		{1, 1},
		{2, 1},
		{3, 1},
		{4, 2},
		{8, 2},
		{9, 3},
		{99, 9},
		{100, 10},
		{1<<62 - 1, 1<<31 - 1},
		{1 << 62, 1 << 31},
		{1<<62 + 1, 1 << 31},
		{greatestRoot*greatestRoot - 1, greatestRoot - 1},
		{greatestRoot * greatestRoot, greatestRoot},
		{math.MaxInt - 1, greatestRoot},
		{math.MaxInt, greatestRoot},
		{-1, 0},
		{-4, 0},
		{-1 << 62, 0},
		{math.MinInt + 1, 0},
		{math.MinInt, 0},
	} {
		if got := Sqrt(x.n); got != x.want {
			t.Errorf("Sqrt(%d) = %d, want %d", x.n, got, x.want)
		}
	}
}

// Between two squares that follow each other the root does not change.
func checkAroundSquare(t *testing.T, r int) {
	t.Helper()
	n := r * r
	if got := Sqrt(n); got != r {
		t.Errorf("Sqrt(%d) = %d, want %d", n, got, r)
	}
	if got := Sqrt(n - 1); got != r-1 {
		t.Errorf("Sqrt(%d) = %d, want %d", n-1, got, r-1)
	}
	if got := Sqrt(n + 1); r > 1 && got != r {
		t.Errorf("Sqrt(%d) = %d, want %d", n+1, got, r)
	}
}

func TestSqrtAroundSquares(t *testing.T) {
	for r := 1; r <= 5000; r++ {
		checkAroundSquare(t, r)
		checkAroundSquare(t, greatestRoot+1-r)
	}
	for shift := range 32 {
		for r := 1<<shift - 2; r <= 1<<shift+2; r++ {
			if r >= 1 {
				checkAroundSquare(t, r)
			}
		}
	}
	for r := 1; r <= greatestRoot; r += 99991 {
		checkAroundSquare(t, r)
	}
}

func TestSqrtIsExact(t *testing.T) {
	for n := -100; n <= 100000; n++ {
		want := new(big.Int).Sqrt(bigInt(max(n, 0)))
		if got := Sqrt(n); bigInt(got).Cmp(want) != 0 {
			t.Errorf("Sqrt(%d) = %d, want %v", n, got, want)
		}
	}
	for _, n := range ints {
		want := new(big.Int).Sqrt(bigInt(max(n, 0)))
		if got := Sqrt(n); bigInt(got).Cmp(want) != 0 {
			t.Errorf("Sqrt(%d) = %d, want %v", n, got, want)
		}
	}
}

// P2.1: Floor.

func TestFloorExamples(t *testing.T) {
	for _, x := range []struct{ a, b, want int }{
		{0, 1, 0},
		{0, 7, 0},
		{6, 2, 3},
		{7, 2, 3},
		{1, 2, 0},
		{-1, 2, -1},
		{-7, 2, -4},
		{-8, 2, -4},
		{-9, 2, -5},
		{-1, 1, -1},
		{-1, math.MaxInt, -1},
		{math.MaxInt, 1, math.MaxInt},
		{math.MaxInt, 2, 1<<62 - 1},
		{math.MaxInt, math.MaxInt, 1},
		{math.MaxInt - 1, math.MaxInt, 0},
		{math.MinInt, 1, math.MinInt},
		{math.MinInt, 2, -1 << 62},
		{math.MinInt + 1, 2, -1 << 62},
		{math.MinInt + 1, math.MaxInt, -1},
		{math.MinInt, math.MaxInt, -2},
	} {
		if got := Floor(x.a, x.b); got != x.want {
			t.Errorf("Floor(%d, %d) = %d, want %d", x.a, x.b, got, x.want)
		}
	}
}

func checkFloor(t *testing.T, a, b int) {
	t.Helper()
	// Div of math/big rounds down, if the divisor is above 0.
	want := new(big.Int).Div(bigInt(a), bigInt(b))
	if got := Floor(a, b); bigInt(got).Cmp(want) != 0 {
		t.Errorf("Floor(%d, %d) = %d, want %v", a, b, got, want)
	}
}

func TestFloorIsExact(t *testing.T) {
	for a := -60; a <= 60; a++ {
		for b := 1; b <= 20; b++ {
			checkFloor(t, a, b)
		}
	}
	for _, a := range ints {
		for _, b := range ints {
			if b >= 1 {
				checkFloor(t, a, b)
			}
		}
	}
}

// No answer is promised here, but that there is one (W1).
func TestFloorDoesNotPanic(t *testing.T) {
	for _, a := range ints {
		for _, b := range []int{0, -1, -2, math.MinInt} {
			Floor(a, b)
		}
	}
}

// P2.2: Of.

func TestOfExamples(t *testing.T) {
	for _, x := range []struct {
		num, den int
		want     api.Frac
	}{
		{6, 4, api.Frac{Num: 3, Den: 2}},
		{4, 6, api.Frac{Num: 2, Den: 3}},
		{3, 2, api.Frac{Num: 3, Den: 2}},
		{7, 7, api.Frac{Num: 1, Den: 1}},
		{12, 4, api.Frac{Num: 3, Den: 1}},
		{5, 1, api.Frac{Num: 5, Den: 1}},
		{1, 5, api.Frac{Num: 1, Den: 5}},
		{0, 1, api.Frac{Num: 0, Den: 1}},
		{0, 9, api.Frac{Num: 0, Den: 1}},
		{0, math.MaxInt, api.Frac{Num: 0, Den: 1}},
		{math.MaxInt, 1, api.Frac{Num: math.MaxInt, Den: 1}},
		{1, math.MaxInt, api.Frac{Num: 1, Den: math.MaxInt}},
		{math.MaxInt, math.MaxInt, api.Frac{Num: 1, Den: 1}},
		{math.MaxInt, math.MaxInt - 1, api.Frac{Num: math.MaxInt, Den: math.MaxInt - 1}},
		{math.MaxInt, 7, api.Frac{Num: math.MaxInt / 7, Den: 1}},
		{1 << 62, 3 << 61, api.Frac{Num: 2, Den: 3}},
		{3 << 61, 1 << 62, api.Frac{Num: 3, Den: 2}},
		{5 * 1000000007, 3 * 1000000007, api.Frac{Num: 5, Den: 3}},
		{998244353 * 1000000007, 998244353 * 1000000009, api.Frac{Num: 1000000007, Den: 1000000009}},
	} {
		if got, errno := Of(x.num, x.den); got != x.want || errno != 0 {
			t.Errorf("Of(%d, %d) = %v, %d, want %v, 0", x.num, x.den, got, int(errno), x.want)
		}
	}
}

func TestOfRefusesWrongNumbers(t *testing.T) {
	for _, x := range [][2]int{
		{-1, 2},
		{-6, 4},
		{math.MinInt, 1},
		{1, 0},
		{0, 0},
		{1, -1},
		{0, -5},
		{6, -4},
		{-6, -4},
		{-1, 0},
		{math.MaxInt, math.MinInt},
		{math.MinInt, math.MinInt},
	} {
		if got, errno := Of(x[0], x[1]); got != (api.Frac{}) || errno != api.ErrArgument {
			t.Errorf("Of(%d, %d) = %v, %d, want a zero one, %d", x[0], x[1], got, int(errno), int(api.ErrArgument))
		}
	}
}

func checkLeastForm(t *testing.T, num, den int) {
	t.Helper()
	// A Rat of math/big keeps its least form, with a denominator above 0.
	want := big.NewRat(int64(num), int64(den))
	got, errno := Of(num, den)
	if bigInt(got.Num).Cmp(want.Num()) != 0 || bigInt(got.Den).Cmp(want.Denom()) != 0 || errno != 0 {
		t.Errorf("Of(%d, %d) = %v, %d, want %v, 0", num, den, got, int(errno), want)
	}
}

func TestOfIsLeastForm(t *testing.T) {
	for num := range 80 {
		for den := 1; den <= 80; den++ {
			checkLeastForm(t, num, den)
		}
	}
	for _, f := range fractions() {
		checkLeastForm(t, f.Num, f.Den)
	}
}

// P2.2: Compare.

func TestCompareExamples(t *testing.T) {
	for _, x := range []struct {
		a, b api.Frac
		want int
	}{
		{api.Frac{Num: 1, Den: 3}, api.Frac{Num: 2, Den: 5}, -1},
		{api.Frac{Num: 2, Den: 4}, api.Frac{Num: 1, Den: 2}, 0},
		{api.Frac{Num: 7, Den: 2}, api.Frac{Num: 10, Den: 3}, 1},
		{api.Frac{Num: 0, Den: 5}, api.Frac{Num: 0, Den: 7}, 0},
		{api.Frac{Num: 0, Den: 1}, api.Frac{Num: 1, Den: math.MaxInt}, -1},
		{api.Frac{Num: math.MaxInt, Den: math.MaxInt}, api.Frac{Num: 1, Den: 1}, 0},
		{api.Frac{Num: 1 << 32, Den: 1}, api.Frac{Num: 1, Den: 1 << 32}, 1},
		{api.Frac{Num: math.MaxInt, Den: 1}, api.Frac{Num: 1, Den: math.MaxInt}, 1},
		{api.Frac{Num: math.MaxInt, Den: 2}, api.Frac{Num: math.MaxInt, Den: 3}, 1},
		{api.Frac{Num: math.MaxInt - 2, Den: math.MaxInt - 1}, api.Frac{Num: math.MaxInt - 1, Den: math.MaxInt}, -1},
		{api.Frac{Num: math.MaxInt, Den: math.MaxInt - 1}, api.Frac{Num: math.MaxInt - 1, Den: math.MaxInt - 2}, -1},
	} {
		if got := Compare(x.a, x.b); got != x.want {
			t.Errorf("Compare(%v, %v) = %d, want %d", x.a, x.b, got, x.want)
		}
		if got := Compare(x.b, x.a); got != -x.want {
			t.Errorf("Compare(%v, %v) = %d, want %d", x.b, x.a, got, -x.want)
		}
	}
}

func TestCompareIsExact(t *testing.T) {
	all := fractions()
	rats := make([]*big.Rat, len(all))
	for k, f := range all {
		rats[k] = bigFrac(f)
	}
	for k, a := range all {
		for l, b := range all {
			if got, want := Compare(a, b), rats[k].Cmp(rats[l]); got != want {
				t.Fatalf("Compare(%v, %v) = %d, want %d", a, b, got, want)
			}
		}
	}
}

// P2.3: Scaled.

func TestScaledExamples(t *testing.T) {
	for _, x := range []struct {
		f           api.Frac
		times, want int
	}{
		{api.Frac{Num: 2, Den: 1}, 8, 11},
		{api.Frac{Num: 1, Den: 4}, 8, 4},
		{api.Frac{Num: 2, Den: 8}, 8, 4},
		{api.Frac{Num: 1, Den: 3}, 1, 0},
		{api.Frac{Num: 1, Den: 3}, 3, 1},
		{api.Frac{Num: 0, Den: 1}, 8, 0},
		{api.Frac{Num: 0, Den: 5}, 1 << 20, 0},
		{api.Frac{Num: 9, Den: 1}, 0, 0},
		{api.Frac{Num: math.MaxInt, Den: 1}, 0, 0},
		{api.Frac{Num: math.MaxInt, Den: math.MaxInt}, 1, 1},
		{api.Frac{Num: 1, Den: 1}, 1 << 20, 1 << 20},
		{api.Frac{Num: 1, Den: 1 << 40}, 1 << 20, 1},
		{api.Frac{Num: 1, Den: 1<<40 + 1}, 1 << 20, 0},
		{api.Frac{Num: 1, Den: math.MaxInt}, 1 << 20, 0},
		{api.Frac{Num: math.MaxInt, Den: math.MaxInt}, 1 << 20, 1 << 20},
		{api.Frac{Num: math.MaxInt, Den: math.MaxInt - 1}, 1 << 20, 1 << 20},
	} {
		if got := Scaled(x.f, x.times); got != x.want {
			t.Errorf("Scaled(%v, %d) = %d, want %d", x.f, x.times, got, x.want)
		}
	}
}

// A q of 2^62 is the last one that has an answer; the product that it comes from may go over 64 bits.
func TestScaledAtTheBound(t *testing.T) {
	for _, x := range []struct {
		f           api.Frac
		times, want int
	}{
		{api.Frac{Num: 1<<62 - 1, Den: 1}, 1, 1<<31 - 1},
		{api.Frac{Num: 1 << 62, Den: 1}, 1, 1 << 31},
		{api.Frac{Num: 1<<62 + 1, Den: 1}, 1, -1},
		{api.Frac{Num: math.MaxInt, Den: 2}, 1, 1<<31 - 1},
		{api.Frac{Num: math.MaxInt, Den: 1}, 1, -1},
		{api.Frac{Num: 1 << 40, Den: 1}, 1 << 11, 1 << 31},
		{api.Frac{Num: 1 << 40, Den: 1}, 1 << 12, -1},
		{api.Frac{Num: 1 << 22, Den: 1}, 1 << 20, 1 << 31},
		{api.Frac{Num: 1<<22 + 1, Den: 1}, 1 << 20, -1},
		{api.Frac{Num: 1<<22 - 1, Den: 1}, 1 << 20, 1<<31 - 257},
		{api.Frac{Num: 1 << 62, Den: 1 << 40}, 1 << 20, 1 << 31},
		{api.Frac{Num: 1<<62 + 1, Den: 1 << 40}, 1 << 20, -1},
		// Four sixths above 2^62 are rounded down to it; eight sixths are not.
		{api.Frac{Num: 3<<61 + 1, Den: 6}, 2, 1 << 31},
		{api.Frac{Num: 3<<61 + 2, Den: 6}, 2, -1},
		{api.Frac{Num: 1 << 62, Den: 1<<40 - 1}, 1 << 20, -1},
		// The quotient goes over 64 bits.
		{api.Frac{Num: 1 << 24, Den: 1}, 1 << 20, -1},
		{api.Frac{Num: 1 << 62, Den: 1}, 1 << 20, -1},
		{api.Frac{Num: math.MaxInt, Den: 1}, 1 << 20, -1},
		{api.Frac{Num: math.MaxInt, Den: 2}, 1<<20 - 1, -1},
	} {
		if got := Scaled(x.f, x.times); got != x.want {
			t.Errorf("Scaled(%v, %d) = %d, want %d", x.f, x.times, got, x.want)
		}
	}
}

func TestScaledRefusesWrongNumbers(t *testing.T) {
	for _, x := range []struct {
		f     api.Frac
		times int
	}{
		{api.Frac{Num: 1, Den: 1}, -1},
		{api.Frac{Num: 0, Den: 1}, -1},
		{api.Frac{Num: 1, Den: 1}, -1 << 20},
		{api.Frac{Num: 1, Den: 1}, math.MinInt},
		{api.Frac{Num: 1, Den: 1}, 1<<20 + 1},
		{api.Frac{Num: 0, Den: 1}, 1<<20 + 1},
		{api.Frac{Num: 1, Den: 1}, 1 << 32},
		{api.Frac{Num: 1, Den: 1}, math.MaxInt},
		{api.Frac{Num: -1, Den: 1}, 1},
		{api.Frac{Num: -1, Den: 1}, 0},
		{api.Frac{Num: -1, Den: 2}, 1},
		{api.Frac{Num: math.MinInt, Den: 1}, 1},
		{api.Frac{Num: 1}, 1},
		{api.Frac{Num: 1}, 0},
		{api.Frac{}, 0},
		{api.Frac{Num: 1, Den: -1}, 1},
		{api.Frac{Num: 0, Den: -1}, 0},
		{api.Frac{Num: -4, Den: -1}, 1},
		{api.Frac{Num: 1, Den: math.MinInt}, 1},
	} {
		if got := Scaled(x.f, x.times); got != -1 {
			t.Errorf("Scaled(%v, %d) = %d, want -1", x.f, x.times, got)
		}
	}
}

// wantScaled is P2.3, word for word, in numbers of any size.
func wantScaled(f api.Frac, times int) int {
	if times < 0 || times > 1<<20 || f.Num < 0 || f.Den < 1 {
		return -1
	}
	q := new(big.Int).Mul(bigInt(f.Num), bigInt(times*times))
	q.Div(q, bigInt(f.Den))
	if q.Cmp(bigInt(1<<62)) > 0 {
		return -1
	}
	return int(q.Sqrt(q).Int64())
}

func TestScaledIsExact(t *testing.T) {
	for _, num := range ints {
		for _, den := range ints {
			for _, times := range ints {
				f := api.Frac{Num: num, Den: den}
				if got, want := Scaled(f, times), wantScaled(f, times); got != want {
					t.Errorf("Scaled(%v, %d) = %d, want %d", f, times, got, want)
				}
			}
		}
	}
}
