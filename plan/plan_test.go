package plan_test

import (
	"math"
	"math/big"
	"math/rand"
	"slices"
	"testing"

	"almery/api"
	"almery/plan"
	"almery/pool"
	"almery/shelf"
)

// edges are numbers at which a sum, a difference or a sign may go wrong.
func edges() []int {
	var out []int
	for _, mid := range []int{math.MinInt + 3, -1 << 62, math.MinInt32, 0, 64, 512, 1024, math.MaxInt32, 1 << 32, 1 << 62, math.MaxInt - 3} {
		for d := -3; d <= 3; d++ {
			out = append(out, mid+d)
		}
	}
	return out
}

// eachCounts hands over all counts that may be, of so many pages at most.
func eachCounts(pages, blocks int, do func(counts []int)) {
	var more func(counts []int)
	more = func(counts []int) {
		do(counts)
		if len(counts) == pages {
			return
		}
		for count := 1; count < blocks; count++ {
			more(append(slices.Clone(counts), count))
		}
	}
	more(nil)
}

// someCounts are counts by chance, that may be.
func someCounts(r *rand.Rand, pages, blocks int) []int {
	counts := make([]int, pages)
	for n := range counts {
		counts[n] = 1 + r.Intn(blocks-1)
	}
	return counts
}

// next is Next by the document's words: one page is told after the other, but those that go.
func next(counts []int, blocks int) []int {
	if len(counts) < 2 {
		return counts
	}
	var out []int
	for n, count := range counts {
		if n == 0 {
			count++
		}
		if n == len(counts)-1 {
			count--
		}
		if n == 0 && count == blocks || n == len(counts)-1 && count == 0 {
			continue
		}
		out = append(out, count)
	}
	return out
}

// due is Due by the document's words, of whole numbers.
func due(open, keep int) bool {
	sum := new(big.Int).Add(big.NewInt(int64(keep)), big.NewInt(1))
	return big.NewInt(int64(open)).Cmp(sum) > 0
}

// moves is Moves by the document's words: fewer than two pages stay as they are.
func moves(counts []int, blocks, keep int) int {
	for n := 0; ; n++ {
		if !due(len(counts), keep) {
			return n
		}
		if len(counts) < 2 {
			return 0
		}
		counts = next(counts, blocks)
	}
}

func TestExample(t *testing.T) {
	if got := plan.Moves([]int{1, 2, 1}, 3, 0); got != 2 {
		t.Errorf("Moves: %d, not 2", got)
	}
}

// TestMay is P14.1: each of the counts is held against both ends, wherever it stands.
func TestMay(t *testing.T) {
	for _, blocks := range edges() {
		for _, count := range edges() {
			want := count >= 1 && big.NewInt(int64(count)).Cmp(new(big.Int).Sub(big.NewInt(int64(blocks)), big.NewInt(1))) <= 0
			if got := plan.May([]int{count}, blocks); got != want {
				t.Errorf("May([%d], %d): %v", count, blocks, got)
			}
		}
		if !plan.May(nil, blocks) || !plan.May([]int{}, blocks) {
			t.Errorf("May, of no counts, and %d blocks", blocks)
		}
	}
	for _, no := range []int{math.MinInt, -1, 0, 5, 6, math.MaxInt} {
		for at := range 4 {
			counts := []int{1, 4, 2, 3}
			if !plan.May(counts, 5) {
				t.Fatalf("May(%v, 5)", counts)
			}
			counts[at] = no
			if plan.May(counts, 5) {
				t.Errorf("May(%v, 5)", counts)
			}
		}
	}
}

// TestDue is P14.1: of whole numbers, so that nothing goes round.
func TestDue(t *testing.T) {
	check := func(open, keep int) {
		if got, want := plan.Due(open, keep), due(open, keep); got != want {
			t.Errorf("Due(%d, %d): %v", open, keep, got)
		}
	}
	for open := -5; open <= 40; open++ {
		for keep := -5; keep <= 40; keep++ {
			check(open, keep)
		}
	}
	for _, open := range edges() {
		for _, keep := range edges() {
			check(open, keep)
		}
	}
	for _, c := range []struct {
		open, keep int
		want       bool
	}{
		{0, 0, false}, {1, 0, false}, {2, 0, true}, {5, 4, false}, {6, 4, true}, {0, -1, false}, {1, -1, true}, {0, -2, true}, {-1, -2, false},
		{math.MaxInt, math.MaxInt, false}, {math.MaxInt, math.MaxInt - 1, false}, {math.MaxInt, math.MaxInt - 2, true},
		{math.MinInt, math.MaxInt, false}, {math.MinInt, math.MinInt, false}, {math.MinInt + 1, math.MinInt, false}, {math.MinInt + 2, math.MinInt, true},
	} {
		if got := plan.Due(c.open, c.keep); got != c.want {
			t.Errorf("Due(%d, %d): %v", c.open, c.keep, got)
		}
	}
}

// TestNext is P14.2, of answers that are written out.
func TestNext(t *testing.T) {
	const most = math.MaxInt
	for _, c := range []struct {
		counts []int
		blocks int
		want   []int
	}{
		{nil, 3, nil},
		{[]int{}, 0, nil},
		{[]int{2}, 3, []int{2}},
		{[]int{1}, 2, []int{1}},
		{[]int{1, 1}, 2, nil},
		{[]int{1, 1, 1}, 2, []int{1}},
		{[]int{1, 2}, 4, []int{2, 1}},
		{[]int{1, 1}, 3, []int{2}},
		{[]int{2, 2}, 3, []int{1}},
		{[]int{2, 1}, 3, nil},
		{[]int{1, 2, 1}, 3, []int{2, 2}},
		{[]int{3, 1, 1, 3}, 4, []int{1, 1, 2}},
		{[]int{3, 2, 1}, 4, []int{2}},
		{[]int{5, 9, 5}, 10, []int{6, 9, 4}},
		{[]int{1, most - 1}, most, []int{2, most - 2}},
		{[]int{most - 1, most - 1}, most, []int{most - 2}},
		{[]int{most - 1, 7, 1}, most, []int{7}},
	} {
		if got := plan.Next(c.counts, c.blocks); !slices.Equal(got, c.want) {
			t.Errorf("Next(%v, %d): %v, not %v", c.counts, c.blocks, got, c.want)
		}
	}
}

// TestNextByWords is P14.2, of all counts of few pages and blocks, and of some of many; R3 with it, that nothing is written into what was handed in.
func TestNextByWords(t *testing.T) {
	check := func(counts []int, blocks int) {
		before := slices.Clone(counts)
		got := plan.Next(counts, blocks)
		if want := next(before, blocks); !slices.Equal(got, want) || !slices.Equal(counts, before) {
			t.Fatalf("Next(%v, %d): %v, not %v, and %v is left", before, blocks, got, want, counts)
		}
		if !plan.May(got, blocks) {
			t.Fatalf("Next(%v, %d): %v may not be", counts, blocks, got)
		}
	}
	for blocks := range 8 {
		eachCounts(5, blocks, func(counts []int) { check(counts, blocks) })
	}
	r := rand.New(rand.NewSource(142))
	for range 500 {
		blocks := 2 + r.Intn(511)
		check(someCounts(r, r.Intn(api.MaxPages+1), blocks), blocks)
	}
}

// TestNextAlone is of what is told: it has no memory in common with what was handed in, however much room that has, nor with what another call tells.
func TestNextAlone(t *testing.T) {
	for _, counts := range [][]int{{2}, {1, 2}, {1, 1}, {3, 3}, {3, 2, 1}, {1, 2, 3}, {1, 2, 1}, {3, 2, 3}} {
		in := append(make([]int, 0, 16), counts...)
		one, other := plan.Next(in, 4), plan.Next(in, 4)
		for n := range one {
			one[n] = -1
		}
		one = append(one, -2, -2)
		if want := next(counts, 4); !slices.Equal(in, counts) || !slices.Equal(other, want) {
			t.Errorf("Next(%v, 4), written into: %v is left, and of the other answer %v", counts, in, other)
		}
		for _, n := range in[:cap(in)][len(in):] {
			if n != 0 {
				t.Errorf("Next(%v, 4): behind what was handed in stands %d", counts, n)
			}
		}
	}
}

// TestMoves is P14.3, of answers that are written out; those of keeps below 0 among them, and great counts, which no call could move one by one.
func TestMoves(t *testing.T) {
	const most = math.MaxInt
	for _, c := range []struct {
		counts       []int
		blocks, keep int
		want         int
	}{
		{nil, 3, 0, 0}, {nil, 3, -1, 0}, {nil, 3, -2, 0}, {nil, 0, math.MinInt, 0},
		{[]int{1}, 3, 0, 0}, {[]int{1}, 3, -1, 0}, {[]int{2}, 3, -2, 0}, {[]int{2}, 3, math.MinInt, 0}, {[]int{2}, 3, most, 0},
		{[]int{1, 1}, 2, 0, 1}, {[]int{1, 1}, 2, -1, 1}, {[]int{1, 1}, 2, -2, 0}, {[]int{1, 1}, 2, 1, 0},
		{[]int{1, 1}, 3, 0, 1}, {[]int{1, 1}, 3, -1, 0},
		{[]int{1, 2, 1}, 3, 0, 2}, {[]int{1, 2, 1}, 3, 1, 1}, {[]int{1, 2, 1}, 3, 2, 0}, {[]int{1, 2, 1}, 3, most, 0}, {[]int{1, 2, 1}, 3, -1, 0},
		{[]int{3, 1, 1, 3}, 4, 0, 4}, {[]int{3, 1, 1, 3}, 4, 1, 3}, {[]int{3, 1, 1, 3}, 4, 2, 1}, {[]int{3, 1, 1, 3}, 4, -1, 4},
		{[]int{1, most - 1}, most, 0, most - 1}, {[]int{1, most - 1}, most, -1, most - 1}, {[]int{1, most - 1}, most, -2, 0},
		{[]int{1, most - 2}, most, 0, most - 2}, {[]int{1, most - 2}, most, -1, 0},
		{[]int{1, 1 << 61, 1 << 61}, most, 0, 1 << 62}, {[]int{1, 1 << 61, 1 << 61}, most, 1, 1 << 61},
		{[]int{1, 1 << 40, 5}, 1<<40 + 3, 0, 1<<40 + 2},
	} {
		if got := plan.Moves(c.counts, c.blocks, c.keep); got != c.want {
			t.Errorf("Moves(%v, %d, %d): %d, not %d", c.counts, c.blocks, c.keep, got, c.want)
		}
	}
}

// TestMovesByWords is P14.3, of all counts of few pages and blocks; R3 with it.
func TestMovesByWords(t *testing.T) {
	keeps := []int{math.MinInt, math.MinInt + 1, -3, -2, -1, 0, 1, 2, 3, 4, 5, 6, math.MaxInt - 1, math.MaxInt}
	for blocks := range 7 {
		eachCounts(5, blocks, func(counts []int) {
			before := slices.Clone(counts)
			for _, keep := range keeps {
				got := plan.Moves(counts, blocks, keep)
				if want := moves(before, blocks, keep); got != want || !slices.Equal(counts, before) {
					t.Fatalf("Moves(%v, %d, %d): %d, not %d, and %v is left", before, blocks, keep, got, want, counts)
				}
			}
		})
	}
}

// TestMovesByChance is P14.3, of more pages and blocks, up to the most that a page may have.
func TestMovesByChance(t *testing.T) {
	r := rand.New(rand.NewSource(143))
	for range 400 {
		blocks := 2 + r.Intn(511)
		counts := someCounts(r, r.Intn(30), blocks)
		keep := r.Intn(32) - 2
		if got, want := plan.Moves(counts, blocks, keep), moves(counts, blocks, keep); got != want {
			t.Fatalf("Moves(%v, %d, %d): %d, not %d", counts, blocks, keep, got, want)
		}
	}
}

// TestMovesOfMany is P14.3 at the most pages and blocks, all of them with one block, with all but one, or with half of them.
func TestMovesOfMany(t *testing.T) {
	const pages, blocks = api.MaxPages, 512
	for _, c := range []struct{ count, keep, want int }{
		{1, 0, 1022}, {1, 510, 512}, {1, 511, 511}, {1, 512, 511}, {1, 513, 510}, {1, pages - 1, 0}, {1, pages - 2, 1},
		{511, 0, 1022}, {511, pages - 2, 1}, {511, pages - 3, 2},
		{256, 0, 131072}, {256, -1, 131072}, {256, -2, 0}, {256, pages - 2, 256}, {256, pages - 3, 256}, {256, pages - 4, 512},
	} {
		counts := slices.Repeat([]int{c.count}, pages)
		if got := plan.Moves(counts, blocks, c.keep); got != c.want {
			t.Errorf("Moves, of %d pages of %d, keep %d: %d, not %d", pages, c.count, c.keep, got, c.want)
		}
	}
}

// TestWhatFollows is P14.4, by what Next and Moves tell alone.
func TestWhatFollows(t *testing.T) {
	for blocks := 2; blocks < 7; blocks++ {
		eachCounts(5, blocks, func(counts []int) {
			for keep := range 6 {
				most := max(0, len(counts)-keep-1) * (blocks - 1)
				if got := plan.Moves(counts, blocks, keep); got < 0 || got > most {
					t.Fatalf("Moves(%v, %d, %d): %d is above %d", counts, blocks, keep, got, most)
				}
			}
			if len(counts) < 2 {
				return
			}
			left := counts
			for range blocks - 1 {
				left = plan.Next(left, blocks)
			}
			if len(left) >= len(counts) {
				t.Fatalf("%v, behind %d moves: %v", counts, blocks-1, left)
			}
		})
	}
}

// TestWrong is of counts that may not be, of which the document says nothing: each call ends, without a panic, and they don't move.
func TestWrong(t *testing.T) {
	for _, a := range edges() {
		for _, b := range edges() {
			for _, blocks := range []int{math.MinInt, -1, 0, 1, 2, 3, 64, math.MaxInt - 1, math.MaxInt} {
				counts := []int{a, 1, b}
				if plan.May(counts, blocks) {
					continue
				}
				if got := plan.Next(counts, blocks); !slices.Equal(got, counts) {
					t.Fatalf("Next(%v, %d): %v", counts, blocks, got)
				}
				for _, keep := range []int{math.MinInt, -1, 0, 1, math.MaxInt} {
					if got := plan.Moves(counts, blocks, keep); got != 0 || !slices.Equal(counts, []int{a, 1, b}) {
						t.Fatalf("Moves(%d, 1, %d, of %d blocks, keep %d): %d, and %v is left", a, b, blocks, keep, got, counts)
					}
				}
			}
		}
	}
}

// shelved is a shelf whose open pages have these counts, in turn: a page that becomes open comes ahead, so the last one is opened first.
func shelved(t *testing.T, counts []int, blocks int) *shelf.Shelf {
	t.Helper()
	p, _ := pool.New(max(1, len(counts)))
	s, err := shelf.New(p, 0, blocks)
	if err != api.OK {
		t.Fatalf("a shelf of %d blocks: %v", blocks, err)
	}
	for n := range len(counts) * blocks {
		s.Take(n)
	}
	for n := len(counts) - 1; n >= 0; n-- {
		for at := counts[n]; at < blocks; at++ {
			s.Give(n, at)
		}
	}
	return s
}

// TestShelf holds Next and Moves against a shelf on which a block moves as the words have it: as many pages are open behind each.
func TestShelf(t *testing.T) {
	for blocks := 2; blocks < 6; blocks++ {
		eachCounts(4, blocks, func(counts []int) {
			for keep := range 4 {
				s, left, made := shelved(t, counts, blocks), counts, 0
				for plan.Due(s.Open(), keep) {
					l, ok := s.Plan()
					if !ok {
						t.Fatalf("%v, of %d blocks: nothing is planned", left, blocks)
					}
					s.Take(s.Owner(l.From, l.FromAt))
					s.Give(l.From, l.FromAt)
					left = plan.Next(left, blocks)
					made++
					if s.Open() != len(left) {
						t.Fatalf("%v, of %d blocks, behind %d moves: %v, where %d are open", counts, blocks, made, left, s.Open())
					}
				}
				if got := plan.Moves(counts, blocks, keep); got != made {
					t.Fatalf("Moves(%v, %d, %d): %d, where %d were made", counts, blocks, keep, got, made)
				}
			}
		})
	}
}
