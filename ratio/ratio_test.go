package ratio_test

import (
	"math"
	"math/big"
	"math/rand"
	"slices"
	"testing"

	"almery/ratio"
)

var (
	infinity = math.Inf(1)
	none     = math.NaN()
	minus    = math.Copysign(0, -1)
)

// upward are floats from the least to the greatest one, at the edges of their kinds: no two are the same.
func upward() []float64 {
	return []float64{
		-infinity, -math.MaxFloat64, -1e300, -0x1p63, -3, -2, math.Nextafter(-1, -2), -1, math.Nextafter(-1, 0), -0.5,
		-0x1p-1022, math.Nextafter(-0x1p-1022, 0), -2 * math.SmallestNonzeroFloat64, -math.SmallestNonzeroFloat64, minus,
		0, math.SmallestNonzeroFloat64, 2 * math.SmallestNonzeroFloat64, math.Nextafter(0x1p-1022, 0), 0x1p-1022,
		0.5, math.Nextafter(1, 0), 1, math.Nextafter(1, 2), 2, 3, 0x1p63, 1e300, math.MaxFloat64, infinity,
	}
}

// noNumbers are NaNs of several bits: of both signs, quiet ones and others.
func noNumbers() []float64 {
	var out []float64
	for _, bits := range []uint64{0x7ff8000000000000, 0x7ff8000000000001, 0xfff8000000000000, 0xffffffffffffffff, 0x7ff0000000000001, 0xfff0000000000001} {
		out = append(out, math.Float64frombits(bits))
	}
	return append(out, none)
}

func all() []float64 { return append(upward(), noNumbers()...) }

// same holds bits against bits, so that -0 isn't 0; all NaNs are one.
func same(x, y float64) bool {
	return math.IsNaN(x) && math.IsNaN(y) || math.Float64bits(x) == math.Float64bits(y)
}

func TestExamples(t *testing.T) {
	if got := ratio.Part(1, 0); !same(got, infinity) {
		t.Errorf("1 by 0: %v, not infinity", got)
	}
	if got := ratio.Part(0, 0); !math.IsNaN(got) {
		t.Errorf("0 by 0: %v, not NaN", got)
	}
	if !ratio.Below(minus, 0) {
		t.Error("-0 isn't below 0")
	}
}

// TestPart is P4.1 at what is known beforehand.
func TestPart(t *testing.T) {
	for _, c := range []struct {
		a, b int
		want float64
	}{
		{1, 4, 0.25}, {-1, 4, -0.25}, {1, -4, -0.25}, {-1, -4, 0.25}, {7, 7, 1}, {1, 3, 1.0 / 3}, {2, 3, 2.0 / 3},
		{0, 5, 0}, {0, -5, minus}, {5, 0, infinity}, {-5, 0, -infinity}, {math.MaxInt, 0, infinity}, {math.MinInt, 0, -infinity},
		{0, math.MaxInt, 0}, {0, math.MinInt, minus},
		{math.MaxInt, math.MinInt, -1}, {math.MinInt, math.MaxInt, -1}, {math.MinInt, math.MinInt, 1}, {math.MinInt, -1, 0x1p63}, {math.MaxInt, 1, 0x1p63},
		// Of two floats that are as near, the even one is taken.
		{1<<53 + 1, 1, 1 << 53}, {1<<53 + 3, 1, 1<<53 + 4}, {-1<<53 - 1, 1, -1 << 53}, {-1<<53 - 3, 1, -1<<53 - 4}, {1<<53 - 1, 1, 1<<53 - 1},
		{1, 1<<53 + 1, 0x1p-53}, {1<<53 + 1, 1<<53 + 1, 1}, {1<<53 + 1, 1 << 53, 1},
	} {
		if got := ratio.Part(c.a, c.b); !same(got, c.want) {
			t.Errorf("%d by %d: %v, not %v", c.a, c.b, got, c.want)
		}
	}
	if got := ratio.Part(0, 0); !math.IsNaN(got) {
		t.Errorf("0 by 0: %v, not NaN", got)
	}
}

// partByWords rounds each of both numbers, and then what the one is by the other one, none of it by the machine's floats.
func partByWords(a, b int) float64 {
	near := func(n int) *big.Float {
		return new(big.Float).SetPrec(53).SetMode(big.ToNearestEven).SetInt64(int64(n))
	}
	x, _ := new(big.Float).SetPrec(53).SetMode(big.ToNearestEven).Quo(near(a), near(b)).Float64()
	return x
}

// TestPartByWords is P4.1 of many numbers, small and great ones, by none of them 0.
func TestPartByWords(t *testing.T) {
	ask := func(a, b int) {
		if got, want := ratio.Part(a, b), partByWords(a, b); !same(got, want) {
			t.Errorf("%d by %d: %v, not %v", a, b, got, want)
		}
	}
	for a := -40; a <= 40; a++ {
		for b := -40; b <= 40; b++ {
			if b != 0 {
				ask(a, b)
			}
		}
	}
	chance := rand.New(rand.NewSource(4))
	for range 20000 {
		a, b := int(chance.Uint64()>>chance.Intn(64)), int(chance.Uint64()>>chance.Intn(64))
		if b != 0 {
			ask(a, b)
		}
	}
}

// TestBelow is the first half of P4.2: each number is below just those after it, a NaN above all of them and below none.
func TestBelow(t *testing.T) {
	for i, x := range upward() {
		for k, y := range upward() {
			if got := ratio.Below(x, y); got != (i < k) {
				t.Errorf("%v below %v: %v", x, y, got)
			}
		}
		for _, n := range noNumbers() {
			if !ratio.Below(x, n) {
				t.Errorf("%v isn't below the NaN %#x", x, math.Float64bits(n))
			}
			if ratio.Below(n, x) {
				t.Errorf("the NaN %#x is below %v", math.Float64bits(n), x)
			}
		}
	}
	for _, n := range noNumbers() {
		for _, m := range noNumbers() {
			if ratio.Below(n, m) {
				t.Errorf("the NaN %#x is below the NaN %#x", math.Float64bits(n), math.Float64bits(m))
			}
		}
	}
}

// TestBelowIsOneOrder is P4.4, and that what is below another one is below all that are above that one, of floats of any bits.
func TestBelowIsOneOrder(t *testing.T) {
	chance := rand.New(rand.NewSource(44))
	l := all()
	for range 60 {
		l = append(l, math.Float64frombits(chance.Uint64()))
	}
	for _, x := range l {
		for _, y := range l {
			one, other := ratio.Below(x, y), ratio.Below(y, x)
			if want := !same(x, y); (one != other) != want || one && other {
				t.Errorf("%v below %v: %v, the other way %v", x, y, one, other)
			}
			for _, z := range l {
				if one && ratio.Below(y, z) && !ratio.Below(x, z) {
					t.Errorf("%v below %v below %v, but the first not below the last", x, y, z)
				}
			}
		}
	}
}

// leastByWords tells where in l the first one is below which there is none in l.
func leastByWords(l []float64) int {
	for i, x := range l {
		if !slices.ContainsFunc(l, func(y float64) bool { return ratio.Below(y, x) }) {
			return i
		}
	}
	return -1
}

// TestLeast is the second half of P4.2 at what is known beforehand.
func TestLeast(t *testing.T) {
	for _, c := range []struct {
		l    []float64
		want float64
	}{
		{nil, none}, {[]float64{}, none}, {[]float64{none}, none}, {[]float64{none, none, none}, none},
		{[]float64{5}, 5}, {[]float64{minus}, minus}, {[]float64{infinity}, infinity}, {[]float64{-infinity}, -infinity},
		{[]float64{1, 2, 3}, 1}, {[]float64{3, 2, 1}, 1}, {[]float64{2, 1, 3}, 1}, {[]float64{3, 1, 2, 1, 3}, 1},
		{[]float64{0, minus}, minus}, {[]float64{minus, 0}, minus}, {[]float64{0, 0}, 0}, {[]float64{3, 0, minus, none}, minus},
		{[]float64{none, 3}, 3}, {[]float64{3, none}, 3}, {[]float64{none, infinity, none}, infinity}, {[]float64{none, 2, none, 1, none}, 1},
		{[]float64{infinity, -infinity, none}, -infinity}, {[]float64{1, -1, math.SmallestNonzeroFloat64}, -1},
	} {
		if got := ratio.Least(c.l); !same(got, c.want) {
			t.Errorf("least of %v: %v, not %v", c.l, got, c.want)
		}
	}
}

// TestLeastByWords is P4.2 of many lists; bits are held against bits, as of several NaNs the first one is the least.
func TestLeastByWords(t *testing.T) {
	chance := rand.New(rand.NewSource(42))
	from := all()
	for range 5000 {
		l := make([]float64, 1+chance.Intn(9))
		for i := range l {
			l[i] = from[chance.Intn(len(from))]
		}
		if got, want := ratio.Least(l), l[leastByWords(l)]; math.Float64bits(got) != math.Float64bits(want) {
			t.Errorf("least of %v: %v, not %v", l, got, want)
		}
	}
	if got, want := ratio.Least(noNumbers()[3:]), noNumbers()[3]; math.Float64bits(got) != math.Float64bits(want) {
		t.Errorf("of NaNs alone: %#x, not %#x, the first one", math.Float64bits(got), math.Float64bits(want))
	}
}

// TestLeastOfMany asks of lists at which looking at each one for each one would not end.
func TestLeastOfMany(t *testing.T) {
	const many = 1 << 20
	down, level := make([]float64, many), make([]float64, many)
	for i := range down {
		down[i], level[i] = float64(many-i), 7
	}
	if got := ratio.Least(down); got != 1 {
		t.Errorf("least of those that go down: %v, not 1", got)
	}
	if got := ratio.Least(level); got != 7 {
		t.Errorf("least of one and the same: %v, not 7", got)
	}
}

// TestSum is P4.3 at what is known beforehand: another order, or another start, would tell another sum.
func TestSum(t *testing.T) {
	for _, c := range []struct {
		l    []float64
		want float64
	}{
		{nil, 0}, {[]float64{}, 0}, {[]float64{5}, 5}, {[]float64{1, 2, 6}, 9}, {[]float64{-1, 1}, 0},
		{[]float64{minus}, 0}, {[]float64{minus, minus}, 0}, {[]float64{1, -1, minus}, 0},
		{[]float64{1e300, 1, -1e300}, 0}, {[]float64{1e300, -1e300, 1}, 1}, {[]float64{1, 1e300, -1e300}, 0},
		{[]float64{1 << 53, 1, 1}, 1 << 53}, {[]float64{1, 1, 1 << 53}, 1<<53 + 2}, {[]float64{1 << 53, 3}, 1<<53 + 4},
		{[]float64{math.MaxFloat64, math.MaxFloat64, -math.MaxFloat64}, infinity}, {[]float64{math.MaxFloat64, -math.MaxFloat64, math.MaxFloat64}, math.MaxFloat64},
		{[]float64{-math.MaxFloat64, -math.MaxFloat64}, -infinity},
		{[]float64{infinity, 1}, infinity}, {[]float64{1, -infinity}, -infinity}, {[]float64{infinity, -infinity}, none}, {[]float64{infinity, -infinity, 1}, none},
		{[]float64{none}, none}, {[]float64{1, none, 2}, none}, {[]float64{none, infinity}, none},
		{[]float64{math.SmallestNonzeroFloat64, math.SmallestNonzeroFloat64}, 2 * math.SmallestNonzeroFloat64},
	} {
		if got := ratio.Sum(c.l); !same(got, c.want) {
			t.Errorf("sum of %v: %v, not %v", c.l, got, c.want)
		}
	}
	if got, want := ratio.Sum([]float64{0.1, 0.2, 0.3}), math.Float64frombits(0x3fe3333333333334); got != want {
		t.Errorf("0.1, 0.2 and 0.3: %v, not %v", got, want)
	}
}

// plus adds two numbers that are no infinities without any rounding, and rounds once, none of it by the machine's floats.
func plus(x, y float64) float64 {
	exact := new(big.Float).SetPrec(2200).Add(new(big.Float).SetFloat64(x), new(big.Float).SetFloat64(y))
	out, _ := exact.Float64()
	return out
}

// TestSumByWords is P4.3 of many lists whose sums stay numbers.
func TestSumByWords(t *testing.T) {
	chance := rand.New(rand.NewSource(43))
	for range 5000 {
		l := make([]float64, chance.Intn(9))
		want := 0.0
		for i := range l {
			l[i] = math.Ldexp(chance.NormFloat64(), chance.Intn(120)-60)
			if chance.Intn(8) == 0 {
				l[i] = math.Ldexp(chance.NormFloat64(), -1040)
			}
			want = plus(want, l[i])
		}
		if got := ratio.Sum(l); got != want {
			t.Errorf("sum of %v: %v, not %v", l, got, want)
		}
		if got, want := ratio.Mean(l), meanByWords(want, len(l)); !same(got, want) {
			t.Errorf("mean of %v: %v, not %v", l, got, want)
		}
	}
}

// meanByWords rounds a sum by how many once, none of it by the machine's floats.
func meanByWords(sum float64, many int) float64 {
	if many == 0 {
		return none
	}
	// So many bits that no quotient by a number so small can lie between two floats for them alone.
	x, _ := new(big.Float).SetPrec(2200).Quo(new(big.Float).SetFloat64(sum), new(big.Float).SetInt64(int64(many))).Float64()
	return x
}

// TestMean is P4.3's other half at what is known beforehand.
func TestMean(t *testing.T) {
	for _, c := range []struct {
		l    []float64
		want float64
	}{
		{nil, none}, {[]float64{}, none}, {[]float64{4}, 4}, {[]float64{1, 2, 6}, 3}, {[]float64{1, 2}, 1.5}, {[]float64{-1, -2}, -1.5},
		{[]float64{1, 0, 0}, 1.0 / 3}, {[]float64{minus}, 0}, {[]float64{minus, minus}, 0}, {[]float64{1, -1}, 0},
		// The sum is told first, whatever becomes of it.
		{[]float64{math.MaxFloat64, math.MaxFloat64}, infinity}, {[]float64{1e300, 1, -1e300}, 0},
		{[]float64{infinity, 1}, infinity}, {[]float64{-infinity, 1}, -infinity}, {[]float64{infinity, -infinity}, none}, {[]float64{1, none}, none},
		{[]float64{math.SmallestNonzeroFloat64, 0}, 0}, {[]float64{3 * math.SmallestNonzeroFloat64, 0}, 2 * math.SmallestNonzeroFloat64},
	} {
		if got := ratio.Mean(c.l); !same(got, c.want) {
			t.Errorf("mean of %v: %v, not %v", c.l, got, c.want)
		}
	}
}

// TestHandedInStays is R3, and R4: lists are left as they are, and asked twice the same is told.
func TestHandedInStays(t *testing.T) {
	for _, ask := range []func(l []float64) float64{ratio.Least, ratio.Sum, ratio.Mean} {
		l := []float64{3, none, minus, 0, infinity, -2, 1, -2}
		before := slices.Clone(l)
		first := ask(l[:6])
		if second := ask(l[:6]); !same(first, second) {
			t.Errorf("first %v, then %v", first, second)
		}
		if !slices.EqualFunc(l, before, same) {
			t.Errorf("%v became %v", before, l)
		}
	}
}
