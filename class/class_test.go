package class_test

import (
	"math"
	"slices"
	"testing"

	"almery/api"
	"almery/class"
)

// rising are so many sizes, each a word above the one ahead of it.
func rising(many int) []int {
	sizes := make([]int, many)
	for i := range sizes {
		sizes[i] = api.Word * (i + 1)
	}
	return sizes
}

// someSizes are lists that may be on some page.
func someSizes() [][]int {
	lists := [][]int{{8}, {16}, {64}, {4096}, {8, 16}, {8, 24}, {8, 24, 64}, {16, 40, 48, 128}, {8, 4096}, {4088, 4096}, rising(15), rising(16)}
	// Every choice of six words, by the bits of a number.
	for choice := 1; choice < 1<<6; choice++ {
		var sizes []int
		for word := range 6 {
			if choice>>word&1 == 1 {
				sizes = append(sizes, api.Word*(word+1))
			}
		}
		lists = append(lists, sizes)
	}
	return lists
}

// oddSizes are lists that may be on no page.
func oddSizes() [][]int {
	return [][]int{nil, {}, {0}, {-8}, {7}, {1, 2, 3}, {12}, {24, 8}, {8, 8}, {24, 8, 64}, {64, 24, 24, 8}, {math.MinInt}, {math.MaxInt}, {math.MaxInt, math.MinInt}, {5, 100, 0}, {8, 0}, {8, -16}, rising(17), rising(40)}
}

// someNumbers are small ones of both signs, those about a page, and those at which a sum may go round.
func someNumbers() []int {
	var out []int
	for n := -20; n <= 200; n++ {
		out = append(out, n)
	}
	for _, mid := range []int{4088, 4096, math.MaxInt32, 1 << 32, 1 << 62} {
		for d := -9; d <= 9; d++ {
			out = append(out, mid+d)
		}
	}
	for d := range 17 {
		out = append(out, math.MinInt+d, math.MaxInt-d)
	}
	return out
}

// pick is P2.2 by its words: the least place of all whose sizes hold n.
func pick(sizes []int, n int) int {
	if n < 1 {
		return -1
	}
	at := -1
	for i := len(sizes) - 1; i >= 0; i-- {
		if sizes[i] >= n {
			at = i
		}
	}
	return at
}

func TestExamples(t *testing.T) {
	sizes := []int{8, 24}
	if at, waste := class.Pick(sizes, 9), class.Waste(sizes, 9); at != 1 || waste != 15 {
		t.Errorf("Pick %d, Waste %d, not 1, 15", at, waste)
	}
}

// TestMay is P2.1.
func TestMay(t *testing.T) {
	const most = math.MaxInt
	for _, c := range []struct {
		sizes []int
		page  int
		want  api.Errno
	}{
		{[]int{8}, 64, api.OK},
		{[]int{8, 24}, 64, api.OK},
		{[]int{8, 16, 24, 32, 64}, 64, api.OK},
		{[]int{56, 64}, 64, api.OK},
		{[]int{4096}, 4096, api.OK},
		// A page need not be one of a layout that may be.
		{[]int{8}, 8, api.OK},
		{[]int{8}, 9, api.OK},
		{[]int{8}, 15, api.OK},
		{[]int{8, 16}, 23, api.OK},
		{[]int{8, 4104}, 5000, api.OK},
		{[]int{1 << 40}, 1 << 40, api.OK},
		{[]int{8, most - 7}, most, api.OK},
		// How many sizes there are.
		{nil, 64, api.ErrArg},
		{[]int{}, 64, api.ErrArg},
		{rising(1), 4096, api.OK},
		{rising(15), 4096, api.OK},
		{rising(16), 4096, api.OK},
		{rising(17), 4096, api.ErrArg},
		{rising(40), 4096, api.ErrArg},
		// One below a word.
		{[]int{0}, 64, api.ErrArg},
		{[]int{0, 8}, 64, api.ErrArg},
		{[]int{7}, 64, api.ErrArg},
		{[]int{1}, 64, api.ErrArg},
		{[]int{-8}, 64, api.ErrArg},
		{[]int{-8, 8}, 64, api.ErrArg},
		{[]int{math.MinInt}, 64, api.ErrArg},
		{[]int{math.MinInt}, math.MinInt, api.ErrArg},
		{[]int{-8}, -8, api.ErrArg},
		// One that is no multiple of a word.
		{[]int{9}, 64, api.ErrArg},
		{[]int{12}, 64, api.ErrArg},
		{[]int{15}, 64, api.ErrArg},
		{[]int{8, 20, 32}, 64, api.ErrArg},
		{[]int{8, 16, 63}, 64, api.ErrArg},
		{[]int{most}, most, api.ErrArg},
		{[]int{8, most - 6}, most, api.ErrArg},
		// One above the page.
		{[]int{72}, 64, api.ErrArg},
		{[]int{8, 72}, 64, api.ErrArg},
		{[]int{64}, 63, api.ErrArg},
		{[]int{8}, 7, api.ErrArg},
		{[]int{8}, 0, api.ErrArg},
		{[]int{8}, -8, api.ErrArg},
		{[]int{8}, math.MinInt, api.ErrArg},
		{rising(16), 127, api.ErrArg},
		{rising(16), 128, api.OK},
		// One not above the one ahead of it.
		{[]int{8, 8}, 64, api.ErrArg},
		{[]int{16, 8}, 64, api.ErrArg},
		{[]int{8, 24, 24}, 64, api.ErrArg},
		{[]int{8, 24, 16}, 64, api.ErrArg},
		{[]int{8, 24, 16, 32}, 64, api.ErrArg},
		{[]int{24, 8, 32}, 64, api.ErrArg},
	} {
		if got := class.May(c.sizes, c.page); got != c.want {
			t.Errorf("%v on %d: %v, not %v", c.sizes, c.page, got, c.want)
		}
	}
}

// TestMayOneWrong spoils one size after the other: at no place a wrong one may be.
func TestMayOneWrong(t *testing.T) {
	for _, many := range []int{1, 2, 3, 16} {
		for at := range many {
			for _, wrong := range []int{math.MinInt, -8, 0, 1, 7, 8*(at+1) - 1, 8*(at+1) + 1, 8 * at, 136, math.MaxInt, math.MaxInt - 7} {
				sizes := rising(many)
				sizes[at] = wrong
				if got := class.May(sizes, 128); got != api.ErrArg {
					t.Errorf("%v on 128: %v, not ErrArg", sizes, got)
				}
			}
		}
	}
}

func TestMayOfSome(t *testing.T) {
	for _, sizes := range someSizes() {
		last := sizes[len(sizes)-1]
		for page, want := range map[int]api.Errno{last - 1: api.ErrArg, last: api.OK, last + 1: api.OK, math.MaxInt: api.OK, 0: api.ErrArg} {
			if got := class.May(sizes, page); got != want {
				t.Errorf("%v on %d: %v, not %v", sizes, page, got, want)
			}
		}
	}
	for _, sizes := range oddSizes() {
		for _, page := range []int{64, 4096, math.MaxInt} {
			if got := class.May(sizes, page); got != api.ErrArg {
				t.Errorf("%v on %d: %v, not ErrArg", sizes, page, got)
			}
		}
	}
}

// TestPickAndWaste is P2.2, which is said of any sizes.
func TestPickAndWaste(t *testing.T) {
	for _, c := range []struct {
		sizes           []int
		n, place, waste int
	}{
		{[]int{8, 24, 64}, 1, 0, 7},
		{[]int{8, 24, 64}, 7, 0, 1},
		{[]int{8, 24, 64}, 8, 0, 0},
		{[]int{8, 24, 64}, 9, 1, 15},
		{[]int{8, 24, 64}, 24, 1, 0},
		{[]int{8, 24, 64}, 25, 2, 39},
		{[]int{8, 24, 64}, 64, 2, 0},
		{[]int{8, 24, 64}, 65, -1, -1},
		{[]int{8, 24, 64}, math.MaxInt, -1, -1},
		{[]int{8, 24, 64}, 0, -1, -1},
		{[]int{8, 24, 64}, -1, -1, -1},
		{[]int{8, 24, 64}, math.MinInt, -1, -1},
		{rising(16), 121, 15, 7},
		{rising(16), 128, 15, 0},
		{rising(16), 129, -1, -1},
		{nil, 1, -1, -1},
		{[]int{}, 1, -1, -1},
		{nil, 0, -1, -1},
		// Sizes that may not be.
		{[]int{0}, 0, -1, -1},
		{[]int{-8}, -8, -1, -1},
		{[]int{24, 8}, 5, 0, 19},
		{[]int{8, 64, 24}, 20, 1, 44},
		{[]int{8, 8}, 8, 0, 0},
		{[]int{3, 5, 9}, 4, 1, 1},
		{rising(40), 320, 39, 0},
		{[]int{math.MinInt, math.MaxInt}, 1, 1, math.MaxInt - 1},
		{[]int{math.MaxInt}, math.MaxInt, 0, 0},
		{[]int{math.MaxInt - 1}, math.MaxInt, -1, -1},
	} {
		if place, waste := class.Pick(c.sizes, c.n), class.Waste(c.sizes, c.n); place != c.place || waste != c.waste {
			t.Errorf("%d of %v: Pick %d, Waste %d, not %d, %d", c.n, c.sizes, place, waste, c.place, c.waste)
		}
	}
}

func TestPickAndWasteOfAll(t *testing.T) {
	for _, sizes := range append(someSizes(), oddSizes()...) {
		for _, n := range someNumbers() {
			place, waste := pick(sizes, n), -1
			if place >= 0 {
				waste = sizes[place] - n
			}
			if gotPlace, gotWaste := class.Pick(sizes, n), class.Waste(sizes, n); gotPlace != place || gotWaste != waste {
				t.Errorf("%d of %v: Pick %d, Waste %d, not %d, %d", n, sizes, gotPlace, gotWaste, place, waste)
			}
		}
	}
}

// TestTable is the first half of P2.3.
func TestTable(t *testing.T) {
	for _, c := range []struct{ sizes, want []int }{
		{[]int{8}, []int{-1, 0}},
		{[]int{16}, []int{-1, 0, 0}},
		{[]int{8, 24}, []int{-1, 0, 1, 1}},
		{[]int{8, 24, 64}, []int{-1, 0, 1, 1, 2, 2, 2, 2, 2}},
		{rising(4), []int{-1, 0, 1, 2, 3}},
	} {
		if got := class.Table(c.sizes); !slices.Equal(got, c.want) {
			t.Errorf("%v: %v, not %v", c.sizes, got, c.want)
		}
	}
	for _, sizes := range someSizes() {
		table := class.Table(sizes)
		if want := sizes[len(sizes)-1]/8 + 1; len(table) != want {
			t.Errorf("%v: %d entries, not %d", sizes, len(table), want)
		}
		for words, got := range table {
			want := -1
			if words > 0 {
				want = pick(sizes, 8*words)
			}
			if got != want {
				t.Errorf("%v, %d words: %d, not %d", sizes, words, got, want)
			}
		}
	}
}

// TestLook is the second half of P2.3, which is said of any table.
func TestLook(t *testing.T) {
	table := []int{90, 91, 92, 93}
	for n, want := range map[int]int{1: 91, 7: 91, 8: 91, 9: 92, 16: 92, 17: 93, 24: 93, 25: -1, 32: -1, 33: -1, 0: -1, -1: -1, -8: -1, -9: -1, math.MinInt: -1, math.MaxInt: -1, math.MaxInt - 7: -1, 1 << 62: -1} {
		if got := class.Look(table, n); got != want {
			t.Errorf("Look %d: %d, not %d", n, got, want)
		}
	}
	for _, n := range someNumbers() {
		for _, short := range [][]int{nil, {}, {5}} {
			if got := class.Look(short, n); got != -1 {
				t.Errorf("Look %d of %v: %d, not -1", n, short, got)
			}
		}
	}
	if got := class.Look([]int{-1, -7}, 8); got != -7 {
		t.Errorf("an entry below 0: %d, not -7", got)
	}
}

// TestWhatFollows is P2.4.
func TestWhatFollows(t *testing.T) {
	for _, sizes := range someSizes() {
		table := class.Table(sizes)
		for _, n := range someNumbers() {
			got := class.Look(table, n)
			if want := class.Pick(sizes, n); got != want {
				t.Errorf("%d of %v: Look %d, Pick %d", n, sizes, got, want)
			}
			for at := range max(got, 0) {
				if sizes[at] >= n {
					t.Errorf("%d of %v: Look %d, but %d holds it", n, sizes, got, at)
				}
			}
		}
	}
}

// TestTableEnds asks for tables of which nothing is said, as sizes may not be, or a table is too great: none panics (P1).
func TestTableEnds(t *testing.T) {
	for _, sizes := range oddSizes() {
		class.Look(class.Table(sizes), 1)
	}
	for _, last := range []int{1 << 40, 1 << 62, math.MaxInt - 7} {
		class.Look(class.Table([]int{8, last}), 1)
	}
}

// TestHandedInStays is R3: no call writes into what it is handed, and no two tables share any entries.
func TestHandedInStays(t *testing.T) {
	sizes := []int{8, 24, 64, 1000}[:3]
	first := class.Table(sizes)
	class.May(sizes, 64)
	class.Pick(sizes, 9)
	class.Waste(sizes, 9)
	class.Look(first, 9)
	if whole := sizes[:4]; !slices.Equal(whole, []int{8, 24, 64, 1000}) {
		t.Errorf("sizes came to be %v", whole)
	}
	want := []int{-1, 0, 1, 1, 2, 2, 2, 2, 2}
	if !slices.Equal(first, want) {
		t.Errorf("the table came to be %v", first)
	}
	clear(first)
	if again := class.Table(sizes); !slices.Equal(again, want) {
		t.Errorf("the second table hangs on the first: %v", again)
	}
}
