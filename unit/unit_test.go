package unit_test

import (
	"math"
	"math/big"
	"testing"

	"almery/unit"
)

// told is what the four calls answer of one pair.
type told struct{ many, up, spare, whole int }

func ask(n, by int) told {
	return told{unit.Many(n, by), unit.Up(n, by), unit.Spare(n, by), unit.Whole(n, by)}
}

// edges are numbers at which a sum, a product or a sign may go wrong.
func edges() []int {
	var out []int
	for _, mid := range []int{math.MinInt + 3, 0, 64, 4096, math.MaxInt32, 1 << 32, 3037000499, math.MaxInt / 3, 1 << 62, math.MaxInt - 3} {
		for d := -3; d <= 3; d++ {
			out = append(out, mid+d)
		}
	}
	return out
}

// eachPair hands over small pairs, of both signs, and all pairs of edges.
func eachPair(do func(n, by int)) {
	for n := -20; n <= 200; n++ {
		for by := -20; by <= 210; by++ {
			do(n, by)
		}
	}
	for _, n := range edges() {
		for _, by := range edges() {
			do(n, by)
		}
	}
}

func product(a, b int) *big.Int {
	return new(big.Int).Mul(big.NewInt(int64(a)), big.NewInt(int64(b)))
}

func TestExamples(t *testing.T) {
	if got, want := ask(9, 8), (told{2, 16, 7, 1}); got != want {
		t.Errorf("9 by 8: %v, not %v", got, want)
	}
}

func TestOrdinary(t *testing.T) {
	for _, c := range []struct {
		n, by int
		want  told
	}{
		{1, 1, told{1, 1, 0, 1}},
		{1, 8, told{1, 8, 7, 0}},
		{7, 8, told{1, 8, 1, 0}},
		{8, 8, told{1, 8, 0, 1}},
		{15, 8, told{2, 16, 1, 1}},
		{16, 8, told{2, 16, 0, 2}},
		{17, 8, told{3, 24, 7, 2}},
		{100, 64, told{2, 128, 28, 1}},
		{5, 1, told{5, 5, 0, 5}},
		{10, 3, told{4, 12, 2, 3}},
	} {
		if got := ask(c.n, c.by); got != c.want {
			t.Errorf("%d by %d: %v, not %v", c.n, c.by, got, c.want)
		}
	}
}

func TestWrong(t *testing.T) {
	for _, c := range [][2]int{{0, 8}, {-1, 8}, {-9, 8}, {9, 0}, {9, -1}, {9, -8}, {0, 0}, {-1, -1}, {-8, -8}, {-16, -8}, {0, math.MaxInt}, {0, math.MinInt}, {math.MaxInt, 0}, {math.MaxInt, -1}, {math.MinInt, 0}, {math.MinInt, 1}, {math.MinInt, -1}, {math.MinInt, math.MinInt}, {math.MinInt, math.MaxInt}, {math.MaxInt, math.MinInt}, {1, math.MinInt}} {
		if got := ask(c[0], c[1]); got != (told{}) {
			t.Errorf("%d by %d: %v, not zeros", c[0], c[1], got)
		}
	}
}

func TestNearTheGreatest(t *testing.T) {
	const most = math.MaxInt
	for _, c := range []struct {
		n, by int
		want  told
	}{
		{most, 1, told{most, most, 0, most}},
		{most - 1, 1, told{most - 1, most - 1, 0, most - 1}},
		{most, 2, told{1 << 62, 0, 0, 1<<62 - 1}},
		{most - 1, 2, told{1<<62 - 1, most - 1, 0, 1<<62 - 1}},
		{most - 2, 2, told{1<<62 - 1, most - 1, 1, 1<<62 - 2}},
		{most, 7, told{most / 7, most, 0, most / 7}}, // 7 goes into 2^63 less 1
		{most - 1, 7, told{most / 7, most, 1, most/7 - 1}},
		{most, 8, told{1 << 60, 0, 0, 1<<60 - 1}},
		{most - 7, 8, told{1<<60 - 1, most - 7, 0, 1<<60 - 1}},
		{most - 6, 8, told{1 << 60, 0, 0, 1<<60 - 1}},
		{most, most, told{1, most, 0, 1}},
		{most - 1, most, told{1, most, 1, 0}},
		{1, most, told{1, most, most - 1, 0}},
		{most, most - 1, told{2, 0, 0, 1}},
		{most, 1 << 62, told{2, 0, 0, 1}},
		{1 << 62, 1 << 62, told{1, 1 << 62, 0, 1}},
		{1<<62 + 1, 1 << 62, told{2, 0, 0, 1}},
		{1<<62 + 1, 1<<62 - 1, told{2, most - 1, 1<<62 - 3, 1}},
	} {
		if got := ask(c.n, c.by); got != c.want {
			t.Errorf("%d by %d: %v, not %v", c.n, c.by, got, c.want)
		}
	}
}

// TestManyAndWhole holds both against the words of P1.1: the product with by, and that of the neighbour.
func TestManyAndWhole(t *testing.T) {
	eachPair(func(n, by int) {
		many, whole := unit.Many(n, by), unit.Whole(n, by)
		if n < 1 || by < 1 {
			if many != 0 || whole != 0 {
				t.Errorf("%d by %d: Many %d, Whole %d, not zeros", n, by, many, whole)
			}
			return
		}
		number := big.NewInt(int64(n))
		if product(many, by).Cmp(number) < 0 || product(many-1, by).Cmp(number) >= 0 {
			t.Errorf("%d by %d: Many %d is not the least", n, by, many)
		}
		next := new(big.Int).Add(product(whole, by), big.NewInt(int64(by)))
		if product(whole, by).Cmp(number) > 0 || next.Cmp(number) <= 0 {
			t.Errorf("%d by %d: Whole %d is not the greatest", n, by, whole)
		}
	})
}

// TestUpAndSpare holds both against the words of P1.2, with a product that can't go round.
func TestUpAndSpare(t *testing.T) {
	eachPair(func(n, by int) {
		wantUp, wantSpare := 0, 0
		if p := product(unit.Many(n, by), by); p.IsInt64() && p.Sign() != 0 {
			wantUp = int(p.Int64())
			wantSpare = wantUp - n
		}
		if up, spare := unit.Up(n, by), unit.Spare(n, by); up != wantUp || spare != wantSpare {
			t.Errorf("%d by %d: Up %d, Spare %d, not %d, %d", n, by, up, spare, wantUp, wantSpare)
		}
	})
}

// TestWhatFollows is P1.3, of numbers and sizes that have parts: where there are none, all answers are 0, and the other tests say so.
func TestWhatFollows(t *testing.T) {
	eachPair(func(n, by int) {
		if n < 1 || by < 1 {
			return
		}
		got := ask(n, by)
		if got.spare < 0 || got.spare >= by {
			t.Errorf("%d by %d: Spare %d is not below", n, by, got.spare)
		}
		if d := got.many - got.whole; d < 0 || d > 1 {
			t.Errorf("%d by %d: Many %d and Whole %d differ by more than one", n, by, got.many, got.whole)
		}
		if same, goes := got.many == got.whole, n%by == 0; same != goes {
			t.Errorf("%d by %d: Many %d, Whole %d, by goes into n: %v", n, by, got.many, got.whole, goes)
		}
	})
}
