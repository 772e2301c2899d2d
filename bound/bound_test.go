package bound_test

import (
	"math"
	"math/rand"
	"slices"
	"testing"

	"almery/api"
	"almery/bound"
	"almery/conf"
)

// some is a layout with things of all kinds: classes below Step, of it, and above it, and large things of up to three data pages. Each call tells a new one, so that a test may spoil it.
func some() api.Conf {
	return api.Conf{Size: 128, Pages: 7, Classes: []int{8, 24, 72}, Keep: []int{0, 3, 1}, Step: 24, Slots: 9, Gens: 2, Most: 300}
}

// whole has a class as great as a page: what is large has two data pages at least.
func whole() api.Conf {
	return api.Conf{Size: 64, Pages: 4, Classes: []int{16, 64}, Keep: []int{2, 0}, Step: 8, Slots: 5, Gens: 3, Most: 512}
}

// low has a Most that is below its last class's size, or about it: most that there is is small.
func low(most int) api.Conf {
	return api.Conf{Size: 64, Pages: 4, Classes: []int{8, 24}, Keep: []int{0, 0}, Step: 9, Slots: 5, Gens: 3, Most: most}
}

// least and most have each number at its own end of what may be.
func least() api.Conf {
	return api.Conf{Size: 64, Pages: 1, Classes: []int{8}, Keep: []int{0}, Step: 1, Slots: 1, Gens: 1, Most: 1}
}

func most() api.Conf {
	c := api.Conf{Size: 4096, Pages: 1024, Step: 65536, Slots: 4096, Gens: 1023, Most: 4096 * 512}
	for n := range 16 {
		c.Classes = append(c.Classes, 256*(n+1))
		c.Keep = append(c.Keep, 1024)
	}
	return c
}

func layouts() []api.Conf {
	return []api.Conf{some(), whole(), low(5), low(8), low(9), low(23), low(24), low(25), low(512), least(), most()}
}

// edges are numbers at which a size, a class or a sign may go wrong.
func edges() []int {
	var out []int
	for _, mid := range []int{math.MinInt + 3, -1 << 62, math.MinInt32, -128, 0, 64, 512, 4096, 4096 * 512, math.MaxInt32, 1 << 32, 1 << 62, math.MaxInt - 3} {
		for d := -3; d <= 3; d++ {
			out = append(out, mid+d)
		}
	}
	return out
}

// The model: each bound by the document's words, one charge after the other, with the numbers of DOC.md.

// is tells whether there is a thing of a size.
func is(c api.Conf, size int) bool { return size >= 1 && size <= c.Most }

// block is a small thing's block, 0 of what is large.
func block(c api.Conf, size int) int {
	for _, most := range c.Classes {
		if size <= most {
			return most
		}
	}
	return 0
}

// data is how many pages some bytes need.
func data(c api.Conf, size int) int {
	n := 0
	for left := size; left > 0; left -= c.Size {
		n++
	}
	return n
}

func alloc(c api.Conf, size int) int {
	if !is(c, size) {
		return 0
	}
	if block(c, size) > 0 {
		return 2 + 3 + 4 + block(c, size)
	}
	n := 2 + 4 // the index page
	for range data(c, size) {
		n += 4 + 1 + 1 + c.Size
	}
	return n
}

func free(c api.Conf, size int) int {
	if !is(c, size) {
		return 0
	}
	if b := block(c, size); b > 0 {
		n := 1 + 2 + 3 + 3 + 3 + 3 + 4 + 4 + 4 + b
		if c.Step < b {
			return n + c.Step
		}
		return n + b
	}
	n := 1 + 2 + 4
	for range data(c, size) {
		n += 4 + 1
	}
	return n
}

func read(c api.Conf, size, n int) int {
	switch {
	case !is(c, size) || n < 0 || n > size:
		return 0
	case block(c, size) > 0:
		return 1 + n
	}
	return 1 + n + data(c, n) + 1
}

func write(c api.Conf, size, n int) int {
	if read(c, size, n) == 0 {
		return 0
	}
	return read(c, size, n) + n
}

func resize(c api.Conf, old, size int) int {
	if !is(c, old) || !is(c, size) {
		return 0
	}
	return alloc(c, size) + free(c, old) + old + old + old + data(c, old) + data(c, size) + 4
}

func tick(c api.Conf) int {
	n := c.Step
	for range c.Classes {
		n += 3 + 3 + 4
	}
	return n
}

// check holds all that is told of two numbers against the document's words: of sizes, or of a size and bytes.
func check(t *testing.T, c api.Conf, a, b int) {
	t.Helper()
	for _, one := range []struct {
		name      string
		got, want int
	}{
		{"Alloc", bound.Alloc(c, a), alloc(c, a)},
		{"Free", bound.Free(c, a), free(c, a)},
		{"Read", bound.Read(c, a, b), read(c, a, b)},
		{"Write", bound.Write(c, a, b), write(c, a, b)},
		{"Resize", bound.Resize(c, a, b), resize(c, a, b)},
		{"Tick", bound.Tick(c), tick(c)},
	} {
		if one.got != one.want {
			t.Fatalf("%v: %s of %d, %d: %d, not %d", c, one.name, a, b, one.got, one.want)
		}
	}
}

// TestLayouts is of the layouts of these tests: all of them may be.
func TestLayouts(t *testing.T) {
	for _, c := range layouts() {
		if err := conf.May(c); err != api.OK {
			t.Errorf("%v: %v", c, err)
		}
	}
}

func TestExample(t *testing.T) {
	c := api.Conf{Size: 64, Pages: 5, Classes: []int{32}, Keep: []int{0}, Step: 8, Slots: 4, Gens: 1, Most: 100}
	if n := bound.Alloc(c, 20); n != 41 {
		t.Errorf("Alloc of 20: %d, not 41", n)
	}
}

// TestAllocAndFree is P18.1 and P18.2, of answers that are written out.
func TestAllocAndFree(t *testing.T) {
	for _, one := range []struct {
		c           api.Conf
		size        int
		alloc, free int
	}{
		// A block below Step goes twice, whole; one above it once, and Step.
		{some(), 1, 17, 3 + 24 + 16},
		{some(), 8, 17, 3 + 24 + 16},
		{some(), 9, 33, 3 + 24 + 48},
		{some(), 24, 33, 3 + 24 + 48},
		{some(), 25, 81, 3 + 24 + 96},
		{some(), 72, 81, 3 + 24 + 96},
		// A large thing has its index page, though one data page holds it, and its whole pages are cleared.
		{some(), 73, 2 + 8 + 130, 3 + 8 + 1},
		{some(), 128, 2 + 8 + 130, 3 + 8 + 1},
		{some(), 129, 2 + 12 + 260, 3 + 12 + 2},
		{some(), 256, 2 + 12 + 260, 3 + 12 + 2},
		{some(), 257, 2 + 16 + 390, 3 + 16 + 3},
		{some(), 300, 2 + 16 + 390, 3 + 16 + 3},
		{whole(), 16, 25, 3 + 24 + 24},
		{whole(), 64, 73, 3 + 24 + 72},
		{whole(), 65, 2 + 12 + 132, 3 + 12 + 2},
		{whole(), 512, 2 + 36 + 528, 3 + 36 + 8},
		{least(), 1, 17, 3 + 24 + 9},
		{most(), 1, 265, 3 + 24 + 512},
		{most(), 4096, 4105, 3 + 24 + 8192},
		{most(), 4097, 2 + 12 + 2*4098, 3 + 12 + 2},
		{most(), 4096 * 512, 2 + 4*513 + 512*4098, 3 + 4*513 + 512},
		// Most bounds what is small, too.
		{low(5), 5, 17, 3 + 24 + 16},
		{low(5), 6, 0, 0},
		{low(9), 9, 33, 3 + 24 + 33},
		{low(9), 10, 0, 0},
		{low(24), 24, 33, 3 + 24 + 33},
		{low(24), 25, 0, 0},
		{low(25), 25, 2 + 8 + 66, 3 + 8 + 1},
		{low(25), 26, 0, 0},
		// There is no thing of such a size.
		{some(), 0, 0, 0},
		{some(), -1, 0, 0},
		{some(), 301, 0, 0},
		{some(), math.MinInt, 0, 0},
		{some(), math.MaxInt, 0, 0},
		{least(), 2, 0, 0},
		{most(), 4096*512 + 1, 0, 0},
	} {
		if n := bound.Alloc(one.c, one.size); n != one.alloc {
			t.Errorf("%v: Alloc of %d: %d, not %d", one.c, one.size, n, one.alloc)
		}
		if n := bound.Free(one.c, one.size); n != one.free {
			t.Errorf("%v: Free of %d: %d, not %d", one.c, one.size, n, one.free)
		}
	}
}

// TestReadAndWrite is P18.3, of answers that are written out.
func TestReadAndWrite(t *testing.T) {
	for _, one := range []struct {
		c           api.Conf
		size, n     int
		read, write int
	}{
		{some(), 1, 0, 1, 1},
		{some(), 1, 1, 2, 3},
		{some(), 72, 0, 1, 1},
		{some(), 72, 71, 72, 143},
		{some(), 72, 72, 73, 145},
		// Of a large thing one page more than the bytes need, of no bytes too.
		{some(), 73, 0, 2, 2},
		{some(), 73, 1, 4, 5},
		{some(), 73, 73, 76, 149},
		{some(), 300, 127, 130, 257},
		{some(), 300, 128, 131, 259},
		{some(), 300, 129, 133, 262},
		{some(), 300, 300, 305, 605},
		{whole(), 64, 64, 65, 129},
		{whole(), 65, 64, 67, 131},
		{whole(), 512, 512, 522, 1034},
		{most(), 4096 * 512, 4096 * 512, 4096*512 + 514, 2*4096*512 + 514},
		// Bytes that there aren't.
		{some(), 1, 2, 0, 0},
		{some(), 72, 73, 0, 0},
		{some(), 73, 74, 0, 0},
		{some(), 300, 301, 0, 0},
		{some(), 20, -1, 0, 0},
		{some(), 300, -1, 0, 0},
		{some(), 300, math.MinInt, 0, 0},
		{some(), 300, math.MaxInt, 0, 0},
		// There is no thing of such a size.
		{some(), 0, 0, 0, 0},
		{some(), -1, 0, 0, 0},
		{some(), -1, -1, 0, 0},
		{some(), 301, 0, 0, 0},
		{some(), 301, 5, 0, 0},
		{some(), math.MaxInt, 1, 0, 0},
		{low(9), 9, 9, 10, 19},
		{low(9), 10, 9, 0, 0},
	} {
		if n := bound.Read(one.c, one.size, one.n); n != one.read {
			t.Errorf("%v: Read of %d, %d: %d, not %d", one.c, one.size, one.n, n, one.read)
		}
		if n := bound.Write(one.c, one.size, one.n); n != one.write {
			t.Errorf("%v: Write of %d, %d: %d, not %d", one.c, one.size, one.n, n, one.write)
		}
	}
}

// TestResize is P18.4 of Resize, of answers that are written out: of a small thing, too, its bytes' pages are counted.
func TestResize(t *testing.T) {
	for _, one := range []struct {
		c         api.Conf
		old, size int
		want      int
	}{
		{some(), 1, 1, 17 + 43 + 3 + 1 + 1 + 4},
		{some(), 8, 24, 33 + 43 + 24 + 1 + 1 + 4},
		{some(), 24, 8, 17 + 75 + 72 + 1 + 1 + 4},
		{some(), 20, 300, 408 + 75 + 60 + 1 + 3 + 4},
		{some(), 300, 20, 33 + 22 + 900 + 3 + 1 + 4},
		{some(), 129, 73, 140 + 17 + 387 + 2 + 1 + 4},
		{some(), 257, 300, 408 + 22 + 771 + 3 + 3 + 4},
		{whole(), 64, 65, 146 + 99 + 192 + 1 + 2 + 4},
		{most(), 1, 4096 * 512, 2 + 4*513 + 512*4098 + 539 + 3 + 1 + 512 + 4},
		{most(), 4096 * 512, 1, 265 + 3 + 4*513 + 512 + 3*4096*512 + 512 + 1 + 4},
		// There is no thing of one size, or of both.
		{some(), 0, 5, 0},
		{some(), 5, 0, 0},
		{some(), 0, 0, 0},
		{some(), -1, 5, 0},
		{some(), 5, -1, 0},
		{some(), 301, 5, 0},
		{some(), 5, 301, 0},
		{some(), math.MinInt, 300, 0},
		{some(), 300, math.MaxInt, 0},
		{low(9), 9, 10, 0},
		{low(9), 10, 9, 0},
	} {
		if n := bound.Resize(one.c, one.old, one.size); n != one.want {
			t.Errorf("%v: Resize of %d, %d: %d, not %d", one.c, one.old, one.size, n, one.want)
		}
	}
}

// TestTick is P18.4 of Tick, of answers that are written out.
func TestTick(t *testing.T) {
	for _, one := range []struct {
		c    api.Conf
		want int
	}{{some(), 54}, {whole(), 28}, {low(5), 29}, {least(), 11}, {most(), 65536 + 160}} {
		if n := bound.Tick(one.c); n != one.want {
			t.Errorf("%v: Tick: %d, not %d", one.c, n, one.want)
		}
	}
}

// TestOfEachSize is P18.1 to P18.4 of all sizes by themselves, and of others that are no things.
func TestOfEachSize(t *testing.T) {
	for _, c := range layouts() {
		for size := -3; size <= min(c.Most, 10000)+3; size++ {
			for _, n := range []int{-1, 0, 1, size - 1, size, size + 1, c.Size - 1, c.Size, c.Size + 1, c.Most - size, c.Most} {
				check(t, c, size, n)
			}
		}
		for _, a := range append(edges(), c.Most-1, c.Most, c.Most+1) {
			for _, b := range append(edges(), 1, a, c.Most) {
				check(t, c, a, b)
			}
		}
	}
}

// TestOfEachPair is P18.3 and P18.4 of all pairs of small numbers.
func TestOfEachPair(t *testing.T) {
	for _, c := range layouts() {
		for a := -2; a <= min(c.Most, 320)+2; a++ {
			for b := -2; b <= min(c.Most, 320)+2; b++ {
				check(t, c, a, b)
			}
		}
	}
}

// someLayout is a layout by chance.
func someLayout(r *rand.Rand) api.Conf {
	c := api.Conf{Size: 64 + 8*r.Intn(60), Pages: 1 + r.Intn(1024), Step: 1 + r.Intn(200), Slots: 1 + r.Intn(4096), Gens: 1 + r.Intn(1023)}
	for size := 0; len(c.Classes) < 16; {
		size += 8 * (1 + r.Intn(c.Size/16))
		if size > c.Size || len(c.Classes) > 0 && r.Intn(6) == 0 {
			break
		}
		c.Classes, c.Keep = append(c.Classes, size), append(c.Keep, r.Intn(1025))
	}
	c.Most = 1 + r.Intn(c.Size*c.Size/8)
	return c
}

// TestByChance is P18.1 to P18.4 of layouts and sizes by chance.
func TestByChance(t *testing.T) {
	r := rand.New(rand.NewSource(181))
	for range 3000 {
		c := someLayout(r)
		if err := conf.May(c); err != api.OK {
			t.Fatalf("%v: %v", c, err)
		}
		for range 20 {
			a := r.Intn(c.Most+2) - 1
			if r.Intn(2) == 0 {
				a = r.Intn(min(c.Most, c.Size)+2) - 1
			}
			check(t, c, a, r.Intn(c.Most+2)-1)
			check(t, c, a, r.Intn(max(a, 0)+2))
		}
	}
}

// all is what is told of two numbers.
func all(c api.Conf, a, b int) [6]int {
	return [6]int{bound.Alloc(c, a), bound.Free(c, a), bound.Read(c, a, b), bound.Write(c, a, b), bound.Resize(c, a, b), bound.Tick(c)}
}

// TestHangsOnNoPages is P18.5: layouts that differ by Pages, Slots and Gens have the same bounds.
func TestHangsOnNoPages(t *testing.T) {
	r := rand.New(rand.NewSource(185))
	for range 500 {
		c := someLayout(r)
		other := c
		other.Pages, other.Slots, other.Gens = 1+r.Intn(1024), 1+r.Intn(4096), 1+r.Intn(1023)
		for range 20 {
			a, b := r.Intn(c.Most+2)-1, r.Intn(c.Most+2)-1
			if all(c, a, b) != all(other, a, b) {
				t.Fatalf("%v, %v: of %d, %d: %v, %v", c, other, a, b, all(c, a, b), all(other, a, b))
			}
		}
	}
}

// TestHangsOnAClass is P18.5: small things of one block have the same bounds, whatever else their layouts are, but Step; large ones of as many pages have, whatever their sizes are.
func TestHangsOnAClass(t *testing.T) {
	r := rand.New(rand.NewSource(186))
	for range 500 {
		c, other := someLayout(r), someLayout(r)
		other.Step = c.Step
		ours := block(c, 1+r.Intn(min(c.Most, conf.Small(c))))
		other.Classes, other.Size, other.Most = []int{8, 4096}, 4096, 4096
		if ours > 8 {
			other.Classes = []int{8, ours}
		}
		size := min(c.Most, ours)
		if a, b := bound.Alloc(c, size), bound.Alloc(other, ours); a != b {
			t.Fatalf("%v, %v: Alloc of %d: %d, %d", c, other, size, a, b)
		}
		if a, b := bound.Free(c, size), bound.Free(other, ours); a != b {
			t.Fatalf("%v, %v: Free of %d: %d, %d", c, other, size, a, b)
		}
	}
	c := most()
	for range 500 {
		pages := 2 + r.Intn(511)
		a, b := pages*4096-r.Intn(4096), pages*4096-r.Intn(4096)
		if bound.Alloc(c, a) != bound.Alloc(c, b) || bound.Free(c, a) != bound.Free(c, b) {
			t.Fatalf("sizes %d, %d of %d pages have other bounds", a, b, pages)
		}
	}
}

// TestWrong is of layouts that may not be, of which the document says nothing: each call ends, without a panic, and a size that is no thing's has no bound.
func TestWrong(t *testing.T) {
	lists := [][]int{nil, {}, {0}, {-8}, {8, 24}, {24, 8}, {8, 8, 8}, {math.MinInt, math.MaxInt}, {math.MaxInt, math.MinInt}, make([]int, 40)}
	sizes := []int{math.MinInt, -1, 0, 1, 8, 9, 25, 64, 65, math.MaxInt - 1, math.MaxInt}
	for _, page := range []int{math.MinInt, -64, 0, 1, 7, 64, math.MaxInt} {
		for _, classes := range lists {
			for _, most := range []int{math.MinInt, 0, 1, 64, math.MaxInt} {
				for _, step := range []int{math.MinInt, 0, math.MaxInt} {
					wrongOnes(t, api.Conf{Size: page, Classes: classes, Step: step, Most: most}, sizes)
				}
			}
		}
	}
}

func wrongOnes(t *testing.T, c api.Conf, sizes []int) {
	t.Helper()
	for _, a := range sizes {
		for _, b := range sizes {
			told := all(c, a, b)
			if !is(c, a) && [5]int(told[:5]) != [5]int{} {
				t.Fatalf("%v: of %d, %d: %v", c, a, b, told)
			}
		}
	}
}

// TestHandedInStays is R3: no call writes into a list, nor behind its end.
func TestHandedInStays(t *testing.T) {
	c := some()
	c.Classes, c.Keep = []int{8, 24, 72, 100}[:3], []int{0, 3, 1, 2000}[:3]
	first := all(c, 90, 20)
	for range 2 {
		if again := all(c, 90, 20); again != first || first != all(some(), 90, 20) {
			t.Errorf("%v, %v", first, again)
		}
	}
	if !slices.Equal(c.Classes[:4], []int{8, 24, 72, 100}) || !slices.Equal(c.Keep[:4], []int{0, 3, 1, 2000}) {
		t.Errorf("Classes came to be %v, Keep %v", c.Classes[:4], c.Keep[:4])
	}
}
