package chain_test

import (
	"math"
	"math/big"
	"math/rand"
	"slices"
	"testing"

	"almery/api"
	"almery/chain"
	"almery/unit"
)

// most is the greatest sum of at and n that is cut.
const most = 1 << 24

// edges are numbers at which a sum, a part or a sign may go wrong.
func edges() []int {
	var out []int
	for _, mid := range []int{math.MinInt + 3, -1 << 62, math.MinInt32, 0, 64, 4096, most >> 1, most, math.MaxInt32, 1 << 32, 1 << 62, math.MaxInt - 3} {
		for d := -3; d <= 3; d++ {
			out = append(out, mid+d)
		}
	}
	return out
}

// cut is Cut by the document's words: one byte after the other is told to its page.
func cut(at, n, page int) []api.Span {
	var out []api.Span
	for k := at; k < at+n; k++ {
		if last := len(out) - 1; last >= 0 && out[last].N == k/page {
			out[last].Len++
			continue
		}
		out = append(out, api.Span{N: k / page, At: k - k/page*page, Len: 1})
	}
	return out
}

// may tells whether something is cut, by the document's words, of whole numbers.
func may(at, n, page int) bool {
	sum := new(big.Int).Add(big.NewInt(int64(at)), big.NewInt(int64(n)))
	return at >= 0 && n >= 0 && page >= 1 && sum.Cmp(big.NewInt(most)) <= 0
}

// follows is P16.3, of spans of something that is cut: they begin at at, each begins where the one ahead of it ends, on a later page, none is empty or leaves its page, and the last one ends behind n bytes. Only one list does.
func follows(t *testing.T, at, n, page int, spans []api.Span) {
	t.Helper()
	k, before := at, -1
	for _, s := range spans {
		if s.N <= before || s.N*page+s.At != k || s.At < 0 || s.Len < 1 || s.Len > page-s.At {
			t.Fatalf("Cut(%d, %d, %d): %v, where the byte %d is next, and %d was the page", at, n, page, s, k, before)
		}
		k, before = k+s.Len, s.N
	}
	if k != at+n {
		t.Fatalf("Cut(%d, %d, %d) ends at %d", at, n, page, k)
	}
	if data := chain.Data(n, page); len(spans)-1 > data {
		t.Fatalf("Cut(%d, %d, %d): %d spans, and Data is %d", at, n, page, len(spans), data)
	}
}

func TestExample(t *testing.T) {
	want := []api.Span{{N: 0, At: 60, Len: 4}, {N: 1, At: 0, Len: 6}}
	if got := chain.Cut(60, 10, 64); !slices.Equal(got, want) {
		t.Errorf("Cut(60, 10, 64): %v, not %v", got, want)
	}
}

// TestDataAndAll is P16.1, of answers that are written out.
func TestDataAndAll(t *testing.T) {
	const greatest = math.MaxInt
	for _, c := range []struct{ size, page, data, all int }{
		{1, 64, 1, 2}, {63, 64, 1, 2}, {64, 64, 1, 2}, {65, 64, 2, 3}, {100, 64, 2, 3}, {128, 64, 2, 3}, {129, 64, 3, 4},
		{1, 1, 1, 2}, {7, 1, 7, 8}, {512, 64, 8, 9}, {4096 * 512, 4096, 512, 513},
		{0, 64, 0, 0}, {-1, 64, 0, 0}, {-65, 64, 0, 0}, {5, 0, 0, 0}, {5, -1, 0, 0}, {0, 0, 0, 0}, {-64, -64, 0, 0},
		{math.MinInt, 64, 0, 0}, {64, math.MinInt, 0, 0}, {math.MinInt, math.MinInt, 0, 0}, {math.MinInt, -1, 0, 0}, {greatest, 0, 0, 0},
		{greatest, 1, greatest, 0}, {greatest - 1, 1, greatest - 1, greatest}, {greatest - 2, 1, greatest - 2, greatest - 1},
		{greatest, 2, 1 << 62, 1<<62 + 1}, {greatest, greatest, 1, 2}, {1, greatest, 1, 2}, {greatest, greatest - 1, 2, 3},
	} {
		if data, all := chain.Data(c.size, c.page), chain.All(c.size, c.page); data != c.data || all != c.all {
			t.Errorf("%d by %d: Data %d, All %d, not %d, %d", c.size, c.page, data, all, c.data, c.all)
		}
	}
}

// TestDataAndAllByWords is P16.1: Data is held against unit.Many, All against a sum that can't go round.
func TestDataAndAllByWords(t *testing.T) {
	check := func(size, page int) {
		many, all := unit.Many(size, page), 0
		if more := new(big.Int).Add(big.NewInt(int64(many)), big.NewInt(1)); many != 0 && more.IsInt64() {
			all = int(more.Int64())
		}
		if gotData, gotAll := chain.Data(size, page), chain.All(size, page); gotData != many || gotAll != all {
			t.Errorf("%d by %d: Data %d, All %d, not %d, %d", size, page, gotData, gotAll, many, all)
		}
	}
	for size := -5; size <= 200; size++ {
		for page := -5; page <= 210; page++ {
			check(size, page)
		}
	}
	for _, size := range edges() {
		for _, page := range edges() {
			check(size, page)
		}
	}
}

// TestCut is P16.2, of answers that are written out.
func TestCut(t *testing.T) {
	for _, c := range []struct {
		at, n, page int
		want        []api.Span
	}{
		{0, 1, 1, []api.Span{{N: 0, At: 0, Len: 1}}},
		{4, 2, 1, []api.Span{{N: 4, At: 0, Len: 1}, {N: 5, At: 0, Len: 1}}},
		{0, 63, 64, []api.Span{{N: 0, At: 0, Len: 63}}},
		{0, 64, 64, []api.Span{{N: 0, At: 0, Len: 64}}},
		{0, 65, 64, []api.Span{{N: 0, At: 0, Len: 64}, {N: 1, At: 0, Len: 1}}},
		{63, 1, 64, []api.Span{{N: 0, At: 63, Len: 1}}},
		{63, 2, 64, []api.Span{{N: 0, At: 63, Len: 1}, {N: 1, At: 0, Len: 1}}},
		{64, 64, 64, []api.Span{{N: 1, At: 0, Len: 64}}},
		{70, 3, 64, []api.Span{{N: 1, At: 6, Len: 3}}},
		{63, 66, 64, []api.Span{{N: 0, At: 63, Len: 1}, {N: 1, At: 0, Len: 64}, {N: 2, At: 0, Len: 1}}},
		{100, 92, 64, []api.Span{{N: 1, At: 36, Len: 28}, {N: 2, At: 0, Len: 64}}},
		{most - 1, 1, 64, []api.Span{{N: 1<<18 - 1, At: 63, Len: 1}}},
		{most - 1, 1, 1, []api.Span{{N: most - 1, At: 0, Len: 1}}},
		{most - 2, 2, most - 1, []api.Span{{N: 0, At: most - 2, Len: 1}, {N: 1, At: 0, Len: 1}}},
		{0, most, most, []api.Span{{N: 0, At: 0, Len: most}}},
		{0, most, math.MaxInt, []api.Span{{N: 0, At: 0, Len: most}}},
		{5, most - 5, math.MaxInt, []api.Span{{N: 0, At: 5, Len: most - 5}}},
		{5, most - 5, most, []api.Span{{N: 0, At: 5, Len: most - 5}}},
		{most - 1, 1, math.MaxInt, []api.Span{{N: 0, At: most - 1, Len: 1}}},
	} {
		if got := chain.Cut(c.at, c.n, c.page); !slices.Equal(got, c.want) {
			t.Errorf("Cut(%d, %d, %d): %v, not %v", c.at, c.n, c.page, got, c.want)
		}
	}
}

// TestNothing is P16.2, of what isn't cut, and of no bytes.
func TestNothing(t *testing.T) {
	for _, c := range [][3]int{
		{0, 0, 64}, {5, 0, 64}, {64, 0, 64}, {most, 0, 64}, {most, 0, 1}, {most + 1, 0, 64}, {math.MaxInt, 0, 64}, {0, 0, math.MaxInt},
		{-1, 5, 64}, {-64, 128, 64}, {math.MinInt, 5, 64}, {math.MinInt, math.MaxInt, 64}, {-1, most, 64},
		{0, -1, 64}, {100, -5, 64}, {0, math.MinInt, 64}, {most, math.MinInt, 64}, {math.MaxInt, math.MinInt, 64}, {most + 1, -1, 64}, {-1, -1, 64}, {math.MinInt, math.MinInt, 64},
		{0, 5, 0}, {0, 5, -1}, {0, 5, -64}, {0, 5, math.MinInt}, {0, 0, 0}, {-1, -1, -1},
		{most, 1, 64}, {most - 1, 2, 64}, {0, most + 1, 64}, {1, most, 64}, {most / 2, most/2 + 1, 64}, {most / 2, most/2 + 1, math.MaxInt},
		{0, math.MaxInt, 64}, {1, math.MaxInt, 64}, {math.MaxInt, 1, 64}, {1 << 62, 1 << 62, 64}, {math.MaxInt, math.MaxInt, math.MaxInt}, {math.MaxInt, math.MaxInt, 1},
	} {
		if got := chain.Cut(c[0], c[1], c[2]); len(got) != 0 {
			t.Errorf("Cut(%d, %d, %d): %v, not nothing", c[0], c[1], c[2], got[:min(len(got), 3)])
		}
	}
}

// TestCutByWords is P16.2, and P16.3 with it, of all bytes of few pages.
func TestCutByWords(t *testing.T) {
	for page := 1; page <= 40; page++ {
		for at := range 90 {
			for n := range 90 {
				got := chain.Cut(at, n, page)
				if want := cut(at, n, page); !slices.Equal(got, want) {
					t.Fatalf("Cut(%d, %d, %d): %v, not %v", at, n, page, got, want)
				}
				follows(t, at, n, page, got)
			}
		}
	}
}

// TestCutAtEdges is P16.2 and P16.3, of numbers up to the ends of int; pages of which there would be too many at a time are left to TestCutOfMany.
func TestCutAtEdges(t *testing.T) {
	for _, at := range edges() {
		for _, n := range edges() {
			for _, page := range edges() {
				if !may(at, n, page) {
					if got := chain.Cut(at, n, page); len(got) != 0 {
						t.Fatalf("Cut(%d, %d, %d): %d spans, not nothing", at, n, page, len(got))
					}
				} else if n/page < 1<<13 {
					follows(t, at, n, page, chain.Cut(at, n, page))
				}
			}
		}
	}
}

// TestCutByChance is P16.2 and P16.3, of pages that a heap may have, and of others.
func TestCutByChance(t *testing.T) {
	r := rand.New(rand.NewSource(162))
	for range 2000 {
		page := 64 << r.Intn(7)
		if r.Intn(2) == 0 {
			page = 1 + r.Intn(5000)
		}
		at := r.Intn(api.MaxPages * page)
		n := r.Intn(20 * page)
		got := chain.Cut(at, n, page)
		if want := cut(at, n, page); !slices.Equal(got, want) {
			t.Fatalf("Cut(%d, %d, %d): %v, not %v", at, n, page, got, want)
		}
		follows(t, at, n, page, got)
	}
}

// TestCutOfMany is P16.2 and P16.3 of all bytes that may be cut, of the least pages too.
func TestCutOfMany(t *testing.T) {
	for _, c := range []struct{ at, n, page, want int }{
		{0, most, 1, most}, {7, most - 7, 64, most / 64}, {64, most - 64, 64, most/64 - 1}, {1, most - 1, 4096, most / 4096},
	} {
		got := chain.Cut(c.at, c.n, c.page)
		if len(got) != c.want {
			t.Fatalf("Cut(%d, %d, %d): %d spans, not %d", c.at, c.n, c.page, len(got), c.want)
		}
		follows(t, c.at, c.n, c.page, got)
	}
}

// TestBothEnds is P16.3: two bytes may be on two pages, one more than Data, but no list is longer than that.
func TestBothEnds(t *testing.T) {
	if got := len(chain.Cut(63, 2, 64)); got != 2 || chain.Data(2, 64) != 1 {
		t.Errorf("two bytes on two pages: %d spans, Data %d", got, chain.Data(2, 64))
	}
	if got := len(chain.Cut(0, 640, 64)); got != 10 {
		t.Errorf("ten whole pages: %d spans", got)
	}
}

// TestCutAlone is of what is told: another call's answer has no memory in common with it, and is the same.
func TestCutAlone(t *testing.T) {
	one, other := chain.Cut(60, 200, 64), chain.Cut(60, 200, 64)
	for n := range one {
		one[n] = api.Span{N: -1, At: -1, Len: -1}
	}
	one = append(one, api.Span{N: -2})
	if want := cut(60, 200, 64); !slices.Equal(other, want) || !slices.Equal(chain.Cut(60, 200, 64), want) {
		t.Errorf("Cut(60, 200, 64), beside %v: %v, not %v", one, other, want)
	}
}
