package need_test

import (
	"math"
	"math/rand"
	"slices"
	"testing"

	"almery/api"
	"almery/chain"
	"almery/conf"
	"almery/need"
	"almery/pool"
	"almery/shelf"
)

// some is a layout with things of all kinds: 16 blocks of 8 a page, 5 of 24, and 1 of 72, and large ones of up to three data pages. Each call tells a new one, so that a test may spoil it.
func some() api.Conf {
	return api.Conf{Size: 128, Pages: 7, Classes: []int{8, 24, 72}, Keep: []int{0, 3, 1}, Step: 16, Slots: 9, Gens: 2, Most: 300}
}

// whole has a class as great as a page: what is large has two data pages at least.
func whole() api.Conf {
	return api.Conf{Size: 64, Pages: 4, Classes: []int{16, 64}, Keep: []int{2, 0}, Step: 8, Slots: 5, Gens: 3, Most: 512}
}

// low has a Most that is below its last class's size, and below its first one's if it is 5: all that there is is small.
func low(most int) api.Conf {
	return api.Conf{Size: 64, Pages: 4, Classes: []int{8, 24}, Keep: []int{0, 0}, Step: 8, Slots: 5, Gens: 3, Most: most}
}

// least and most have each number at its own end of what may be.
func least() api.Conf {
	return api.Conf{Size: 64, Pages: 1, Classes: []int{8}, Keep: []int{0}, Step: 1, Slots: 1, Gens: 1, Most: 1}
}

func most() api.Conf {
	c := api.Conf{Size: 4096, Pages: 1024, Step: 65536, Slots: 4096, Gens: 1023, Most: 4096 * 512}
	for n := range 16 {
		c.Classes = append(c.Classes, 256*(n+1))
		c.Keep = append(c.Keep, 1024)
	}
	return c
}

func layouts() []api.Conf {
	return []api.Conf{some(), whole(), low(5), low(8), low(9), low(23), low(24), low(25), least(), most()}
}

// edges are numbers at which a size, a class or a sign may go wrong.
func edges() []int {
	var out []int
	for _, mid := range []int{math.MinInt + 3, -1 << 62, math.MinInt32, -128, 0, 64, 512, 4096, 4096 * 512, math.MaxInt32, 1 << 32, 1 << 62, math.MaxInt - 3} {
		for d := -3; d <= 3; d++ {
			out = append(out, mid+d)
		}
	}
	return out
}

// is tells whether there is a thing of a size, by the document's words.
func is(c api.Conf, size int) bool { return size >= 1 && size <= c.Most }

// live is Live by the document's words: a small thing is of the first class that is not below it.
func live(c api.Conf, sizes []int, class int) int {
	n := 0
	for _, size := range sizes {
		for at, most := range c.Classes {
			if !is(c, size) || size > most {
				continue
			}
			if at == class {
				n++
			}
			break
		}
	}
	return n
}

// pages is Pages by the document's words: one page after the other is filled.
func pages(c api.Conf, sizes []int) (int, api.Errno) {
	n := 0
	for at, most := range c.Classes {
		for left := live(c, sizes, at); left > 0; left -= c.Size / most {
			n++
		}
	}
	for _, size := range sizes {
		if !is(c, size) {
			return 0, api.ErrSize
		}
		if size <= c.Classes[len(c.Classes)-1] {
			continue
		}
		n++ // the index page
		for left := size; left > 0; left -= c.Size {
			n++
		}
	}
	return n, api.OK
}

// greatest is Most by the document's words.
func greatest(c api.Conf, sizes []int, moving []bool) (int, api.Errno) {
	n, err := pages(c, sizes)
	if err != api.OK {
		return 0, err
	}
	if len(moving) != len(c.Classes) {
		return 0, api.ErrArg
	}
	for at, moves := range moving {
		n += c.Keep[at]
		if moves {
			n++
		}
	}
	return n, api.OK
}

// check holds all that is told of some sizes against the document's words.
func check(t *testing.T, c api.Conf, sizes []int, moving []bool) {
	t.Helper()
	wantPages, wantErr := pages(c, sizes)
	if n, err := need.Pages(c, sizes); n != wantPages || err != wantErr {
		t.Fatalf("%v: Pages of %v: %d, %v, not %d, %v", c, sizes, n, err, wantPages, wantErr)
	}
	wantMost, wantErr := greatest(c, sizes, moving)
	if n, err := need.Most(c, sizes, moving); n != wantMost || err != wantErr {
		t.Fatalf("%v: Most of %v, %v: %d, %v, not %d, %v", c, sizes, moving, n, err, wantMost, wantErr)
	}
	for class := -2; class < len(c.Classes)+2; class++ {
		if n, want := need.Live(c, sizes, class), live(c, sizes, class); n != want {
			t.Fatalf("%v: Live of %v, class %d: %d, not %d", c, sizes, class, n, want)
		}
	}
}

// someSizes are sizes by chance, of things alone if no wrong one is asked for.
func someSizes(r *rand.Rand, c api.Conf, many int, wrong bool) []int {
	last := c.Classes[len(c.Classes)-1]
	sizes := make([]int, many)
	for n := range sizes {
		sizes[n] = 1 + r.Intn(c.Most)
		if r.Intn(4) > 0 {
			sizes[n] = 1 + r.Intn(min(c.Most, last))
		}
	}
	if wrong && many > 0 {
		sizes[r.Intn(many)] = []int{0, -1, -c.Most, c.Most + 1, math.MinInt, math.MaxInt}[r.Intn(6)]
	}
	return sizes
}

func someMoving(r *rand.Rand, many int) []bool {
	moving := make([]bool, many)
	for n := range moving {
		moving[n] = r.Intn(2) == 0
	}
	return moving
}

// TestLayouts is of the layouts of these tests: all of them may be.
func TestLayouts(t *testing.T) {
	for _, c := range layouts() {
		if err := conf.May(c); err != api.OK {
			t.Errorf("%v: %v", c, err)
		}
	}
}

func TestExample(t *testing.T) {
	c := api.Conf{Size: 64, Pages: 5, Classes: []int{32}, Keep: []int{0}, Step: 8, Slots: 4, Gens: 1, Most: 100}
	for _, one := range []struct {
		sizes []int
		want  int
	}{{[]int{20, 20, 20}, 2}, {[]int{100}, 3}, {[]int{20, 20, 20, 100}, 5}, {[]int{20, 100, 20, 20}, 5}} {
		if n, err := need.Pages(c, one.sizes); n != one.want || err != api.OK {
			t.Errorf("Pages of %v: %d, %v, not %d", one.sizes, n, err, one.want)
		}
	}
}

// TestLive is P17.1 of Live, of answers that are written out: what is large, or no thing, is of no class.
func TestLive(t *testing.T) {
	for _, one := range []struct {
		c     api.Conf
		sizes []int
		want  []int
	}{
		{some(), nil, []int{0, 0, 0}},
		{some(), []int{}, []int{0, 0, 0}},
		{some(), []int{1}, []int{1, 0, 0}},
		{some(), []int{8, 9}, []int{1, 1, 0}},
		{some(), []int{24, 25, 72}, []int{0, 1, 2}},
		{some(), []int{73, 128, 129, 300}, []int{0, 0, 0}},
		{some(), []int{7, 20, 60, 7, 20, 7}, []int{3, 2, 1}},
		{some(), []int{0, -1, -8, 301, 1000, math.MinInt, math.MaxInt}, []int{0, 0, 0}},
		{some(), []int{0, 5, -1, 72, 73, 301, 5}, []int{2, 0, 1}},
		{whole(), []int{16, 17, 63, 64, 65, 512, 513}, []int{1, 3}},
		{low(5), []int{1, 5, 6, 8, 9}, []int{2, 0}},
		{low(9), []int{8, 9, 10, 24, 25}, []int{1, 1}},
		{low(24), []int{24, 25}, []int{0, 1}},
		{least(), []int{1, 2, 8, 1}, []int{2}},
		{most(), []int{256, 257, 4096, 4097}, []int{1, 1, 0, 0, 0, 0, 0, 0, 0, 0, 0, 0, 0, 0, 0, 1}},
	} {
		for class, want := range one.want {
			if n := need.Live(one.c, one.sizes, class); n != want {
				t.Errorf("%v: Live of %v, class %d: %d, not %d", one.c, one.sizes, class, n, want)
			}
		}
	}
}

// TestLiveOfNoClass is P17.1 of Live: -1 is no class, though class.Pick tells it of what is large.
func TestLiveOfNoClass(t *testing.T) {
	for _, c := range layouts() {
		sizes := append(edges(), 1, 8, 24, 72, 73, c.Most, c.Most+1)
		for _, class := range append(edges(), len(c.Classes), len(c.Classes)+1) {
			if class >= 0 && class < len(c.Classes) {
				continue
			}
			if n := need.Live(c, sizes, class); n != 0 {
				t.Errorf("%v: Live of class %d: %d, not 0", c, class, n)
			}
		}
	}
}

// TestPages is P17.1 of Pages, of answers that are written out.
func TestPages(t *testing.T) {
	for _, one := range []struct {
		c     api.Conf
		sizes []int
		want  int
		err   api.Errno
	}{
		{some(), nil, 0, api.OK},
		{some(), []int{}, 0, api.OK},
		{some(), []int{1}, 1, api.OK},
		{some(), slices.Repeat([]int{8}, 16), 1, api.OK},
		{some(), slices.Repeat([]int{8}, 17), 2, api.OK},
		{some(), slices.Repeat([]int{9}, 5), 1, api.OK},
		{some(), slices.Repeat([]int{24}, 6), 2, api.OK},
		{some(), []int{25}, 1, api.OK},
		{some(), []int{72, 72, 72}, 3, api.OK},
		{some(), []int{8, 9, 25}, 3, api.OK},
		{some(), []int{8, 9, 8, 9, 8}, 2, api.OK},
		// A large thing has its index page, though one data page holds it, and shares none.
		{some(), []int{73}, 2, api.OK},
		{some(), []int{128}, 2, api.OK},
		{some(), []int{129}, 3, api.OK},
		{some(), []int{256}, 3, api.OK},
		{some(), []int{257}, 4, api.OK},
		{some(), []int{300}, 4, api.OK},
		{some(), []int{73, 73}, 4, api.OK},
		{some(), []int{1, 300, 73, 20, 2}, 8, api.OK},
		{whole(), []int{64}, 1, api.OK},
		{whole(), []int{65}, 3, api.OK},
		{whole(), []int{512}, 9, api.OK},
		{least(), []int{1, 1, 1, 1, 1, 1, 1, 1}, 1, api.OK},
		{least(), []int{1, 1, 1, 1, 1, 1, 1, 1, 1}, 2, api.OK},
		{most(), []int{4096 * 512}, 513, api.OK},
		{most(), []int{4097}, 3, api.OK},
		// No thing, wherever it stands.
		{some(), []int{0}, 0, api.ErrSize},
		{some(), []int{-1}, 0, api.ErrSize},
		{some(), []int{301}, 0, api.ErrSize},
		{some(), []int{math.MinInt}, 0, api.ErrSize},
		{some(), []int{math.MaxInt}, 0, api.ErrSize},
		{some(), []int{0, 20, 300}, 0, api.ErrSize},
		{some(), []int{20, 301, 300}, 0, api.ErrSize},
		{some(), []int{20, 300, 0}, 0, api.ErrSize},
		{whole(), []int{513}, 0, api.ErrSize},
		{least(), []int{2}, 0, api.ErrSize},
		{most(), []int{4096*512 + 1}, 0, api.ErrSize},
		// Most bounds what is small, too.
		{low(5), []int{5}, 1, api.OK},
		{low(5), []int{6}, 0, api.ErrSize},
		{low(9), []int{8, 9}, 2, api.OK},
		{low(9), []int{10}, 0, api.ErrSize},
		{low(24), []int{24}, 1, api.OK},
		{low(24), []int{25}, 0, api.ErrSize},
		{low(25), []int{25}, 2, api.OK},
	} {
		if n, err := need.Pages(one.c, one.sizes); n != one.want || err != one.err {
			t.Errorf("%v: Pages of %v: %d, %v, not %d, %v", one.c, one.sizes, n, err, one.want, one.err)
		}
	}
}

// TestMost is P17.2, of answers that are written out: Keep is of all classes, with things or without.
func TestMost(t *testing.T) {
	none, all := []bool{false, false, false}, []bool{true, true, true}
	for _, one := range []struct {
		c      api.Conf
		sizes  []int
		moving []bool
		want   int
		err    api.Errno
	}{
		{some(), nil, none, 4, api.OK},
		{some(), nil, all, 7, api.OK},
		{some(), []int{8}, none, 5, api.OK},
		{some(), []int{8}, []bool{true, false, false}, 6, api.OK},
		{some(), []int{8}, []bool{false, true, false}, 6, api.OK},
		{some(), []int{8}, []bool{false, false, true}, 6, api.OK},
		{some(), []int{8, 300}, []bool{false, true, true}, 11, api.OK},
		{low(24), []int{8, 9}, []bool{false, false}, 2, api.OK},
		{low(24), []int{8, 9}, []bool{true, true}, 4, api.OK},
		{least(), []int{1}, []bool{false}, 1, api.OK},
		{least(), nil, []bool{true}, 1, api.OK},
		{most(), nil, make([]bool, 16), 16384, api.OK},
		{some(), []int{8}, nil, 0, api.ErrArg},
		{some(), []int{8}, []bool{}, 0, api.ErrArg},
		{some(), []int{8}, []bool{true, true}, 0, api.ErrArg},
		{some(), []int{8}, []bool{true, true, true, true}, 0, api.ErrArg},
		{some(), []int{8}, []bool{false, false, false, false}, 0, api.ErrArg},
		{some(), nil, nil, 0, api.ErrArg},
		{least(), nil, nil, 0, api.ErrArg},
		{most(), nil, make([]bool, 15), 0, api.ErrArg},
		{most(), nil, make([]bool, 17), 0, api.ErrArg},
		{some(), []int{0}, none, 0, api.ErrSize},
		{some(), []int{8, 301}, all, 0, api.ErrSize},
		// Of both errors the first one is told.
		{some(), []int{0}, nil, 0, api.ErrSize},
		{some(), []int{8, 301}, []bool{true, true}, 0, api.ErrSize},
		{some(), []int{-1}, []bool{true, true, true, true}, 0, api.ErrSize},
	} {
		if n, err := need.Most(one.c, one.sizes, one.moving); n != one.want || err != one.err {
			t.Errorf("%v: Most of %v, %v: %d, %v, not %d, %v", one.c, one.sizes, one.moving, n, err, one.want, one.err)
		}
	}
}

// TestOfEachSize is P17.1 and P17.2 of all sizes by themselves, and of others that are no things.
func TestOfEachSize(t *testing.T) {
	for _, c := range layouts() {
		moving := make([]bool, len(c.Classes))
		for size := -3; size <= min(c.Most, 20000)+3; size++ {
			check(t, c, []int{size}, moving)
		}
		for _, size := range append(edges(), c.Most-1, c.Most, c.Most+1) {
			check(t, c, []int{size}, moving)
			check(t, c, []int{1, size, c.Most}, moving)
		}
	}
}

// TestOfEachNumber is P17.1 of as many things of one class as fill some pages.
func TestOfEachNumber(t *testing.T) {
	for _, c := range layouts() {
		for at, size := range c.Classes {
			for many := range 3*conf.Blocks(c, at) + 2 {
				check(t, c, slices.Repeat([]int{min(size, c.Most)}, many), make([]bool, len(c.Classes)))
			}
		}
	}
}

// TestByChance is P17.1 and P17.2 of sizes of all kinds, with what is no thing, and too few or too many of moving.
func TestByChance(t *testing.T) {
	r := rand.New(rand.NewSource(171))
	for range 400 {
		for _, c := range layouts() {
			sizes := someSizes(r, c, r.Intn(60), r.Intn(5) == 0)
			moving := len(c.Classes)
			if r.Intn(6) == 0 {
				moving = r.Intn(20)
			}
			check(t, c, sizes, someMoving(r, moving))
		}
	}
}

// TestWhatFollows is P17.3, by what Pages and Most tell alone.
func TestWhatFollows(t *testing.T) {
	r := rand.New(rand.NewSource(173))
	for _, c := range layouts() {
		c.Keep = make([]int, len(c.Classes))
		still := make([]bool, len(c.Classes))
		for range 20 {
			var sizes []int
			before := 0
			for _, size := range someSizes(r, c, 80, false) {
				own, _ := need.Pages(c, []int{size})
				sizes = slices.Insert(sizes, r.Intn(len(sizes)+1), size)
				n, err := need.Pages(c, sizes)
				if n < before || n > before+own || err != api.OK {
					t.Fatalf("%v: Pages of %v: %d, %v, without the %d %d", c, sizes, n, err, size, before)
				}
				if most, err := need.Most(c, sizes, still); most != n || err != api.OK {
					t.Fatalf("%v: Most of %v: %d, %v, and Pages %d", c, sizes, most, err, n)
				}
				before = n
			}
		}
	}
}

// TestTurns is of Pages, Most and Live: none hangs on where a size stands.
func TestTurns(t *testing.T) {
	r := rand.New(rand.NewSource(174))
	for _, c := range layouts() {
		for range 50 {
			sizes := someSizes(r, c, 40, false)
			moving := someMoving(r, len(c.Classes))
			pages, _ := need.Pages(c, sizes)
			most, _ := need.Most(c, sizes, moving)
			live := need.Live(c, sizes, 0)
			r.Shuffle(len(sizes), func(i, j int) { sizes[i], sizes[j] = sizes[j], sizes[i] })
			if n, err := need.Pages(c, sizes); n != pages || err != api.OK {
				t.Fatalf("%v: Pages of %v: %d, %v, not %d", c, sizes, n, err, pages)
			}
			if n, err := need.Most(c, sizes, moving); n != most || err != api.OK {
				t.Fatalf("%v: Most of %v: %d, %v, not %d", c, sizes, n, err, most)
			}
			if n := need.Live(c, sizes, 0); n != live {
				t.Fatalf("%v: Live of %v: %d, not %d", c, sizes, n, live)
			}
		}
	}
}

// held is how many pages a pool has to tell, if each class has a shelf on it, and all sizes are placed.
func held(t *testing.T, c api.Conf, sizes []int) int {
	t.Helper()
	p, _ := pool.New(api.MaxPages)
	shelves := make([]*shelf.Shelf, len(c.Classes))
	for at := range shelves {
		shelves[at], _ = shelf.New(p, at, conf.Blocks(c, at))
	}
	for owner, size := range sizes {
		at := slices.IndexFunc(c.Classes, func(most int) bool { return most >= size })
		if at >= 0 {
			if _, _, err := shelves[at].Take(owner); err != api.OK {
				t.Fatalf("a block of class %d: %v", at, err)
			}
			continue
		}
		for range chain.All(size, c.Size) {
			if _, err := p.Take(len(c.Classes)); err != api.OK {
				t.Fatalf("a page of a thing of %d: %v", size, err)
			}
		}
	}
	return p.Held()
}

// TestHeld holds Pages against shelves and a pool on which the things are placed.
func TestHeld(t *testing.T) {
	r := rand.New(rand.NewSource(175))
	for _, c := range layouts() {
		c.Most = min(c.Most, 20*c.Size)
		for range 30 {
			sizes := someSizes(r, c, r.Intn(100), false)
			if n, err := need.Pages(c, sizes); err != api.OK || n != held(t, c, sizes) {
				t.Fatalf("%v: Pages of %v: %d, %v, not %d", c, sizes, n, err, held(t, c, sizes))
			}
		}
	}
}

// TestOfMany is P17.1 and P17.2 of more things than any heap has.
func TestOfMany(t *testing.T) {
	const many = 300000
	c := most()
	moving := slices.Repeat([]bool{true}, 16)
	for _, one := range []struct{ size, pages int }{{256, many / 16}, {257, many / 8}, {1024, many / 4}, {2049, many}, {4096, many}, {4097, 3 * many}, {4096 * 512, 513 * many}} {
		sizes := slices.Repeat([]int{one.size}, many)
		if n, err := need.Pages(c, sizes); n != one.pages || err != api.OK {
			t.Errorf("Pages of %d times %d: %d, %v, not %d", many, one.size, n, err, one.pages)
		}
		if n, err := need.Most(c, sizes, moving); n != one.pages+16*1025 || err != api.OK {
			t.Errorf("Most of %d times %d: %d, %v, not %d", many, one.size, n, err, one.pages+16*1025)
		}
	}
}

// TestWrong is of layouts that may not be, of which the document says nothing: each call ends, without a panic, and tells 0 beside an error.
func TestWrong(t *testing.T) {
	lists := [][]int{nil, {}, {0}, {-8}, {8, 24}, {24, 8}, {8, 8, 8}, {math.MinInt, math.MaxInt}, {math.MaxInt, math.MinInt}, make([]int, 40)}
	sizes := []int{math.MinInt, -1, 0, 1, 8, 9, 25, 64, 65, math.MaxInt - 1, math.MaxInt}
	for _, page := range []int{math.MinInt, -64, 0, 1, 7, 64, math.MaxInt} {
		for _, classes := range lists {
			for _, keep := range lists {
				for _, most := range []int{math.MinInt, 0, 1, 64, math.MaxInt} {
					c := api.Conf{Size: page, Classes: classes, Keep: keep, Most: most}
					for _, size := range sizes {
						wrongOne(t, c, []int{size}, make([]bool, len(classes)))
						wrongOne(t, c, []int{1, size, size}, make([]bool, 3))
					}
					wrongOne(t, c, sizes, nil)
					wrongOne(t, c, nil, make([]bool, 40))
				}
			}
		}
	}
}

func wrongOne(t *testing.T, c api.Conf, sizes []int, moving []bool) {
	t.Helper()
	if n, err := need.Pages(c, sizes); err != api.OK && n != 0 {
		t.Fatalf("%v: Pages of %v: %d, %v", c, sizes, n, err)
	}
	if n, err := need.Most(c, sizes, moving); err != api.OK && n != 0 {
		t.Fatalf("%v: Most of %v, %v: %d, %v", c, sizes, moving, n, err)
	}
	for _, class := range []int{math.MinInt, -1, 0, 1, 39, 40, math.MaxInt} {
		if n := need.Live(c, sizes, class); n < 0 || n > len(sizes) {
			t.Fatalf("%v: Live of %v, class %d: %d", c, sizes, class, n)
		}
	}
}

// TestHandedInStays is R3: no call writes into a list, nor behind its end.
func TestHandedInStays(t *testing.T) {
	sizes := []int{300, 8, 73, 9, 25, 1000}
	moving := []bool{true, false, true, true}
	c := some()
	c.Classes, c.Keep = []int{8, 24, 72, 1000}[:3], []int{0, 3, 1, 2000}[:3]
	for range 2 {
		if n, err := need.Pages(c, sizes[:5]); n != 9 || err != api.OK {
			t.Errorf("Pages: %d, %v, not 9", n, err)
		}
		if n, err := need.Most(c, sizes[:5], moving[:3]); n != 15 || err != api.OK {
			t.Errorf("Most: %d, %v, not 15", n, err)
		}
		if n := need.Live(c, sizes[:5], 3); n != 0 {
			t.Errorf("Live: %d, not 0", n)
		}
	}
	if !slices.Equal(sizes, []int{300, 8, 73, 9, 25, 1000}) || !slices.Equal(moving, []bool{true, false, true, true}) {
		t.Errorf("sizes came to be %v, moving %v", sizes, moving)
	}
	if !slices.Equal(c.Classes[:4], []int{8, 24, 72, 1000}) || !slices.Equal(c.Keep[:4], []int{0, 3, 1, 2000}) {
		t.Errorf("Classes came to be %v, Keep %v", c.Classes[:4], c.Keep[:4])
	}
}
