package conf_test

import (
	"math"
	"slices"
	"testing"

	"almery/api"
	"almery/class"
	"almery/conf"
)

// some is a layout that may be; each call tells a new one, so that a test may spoil it.
func some() api.Conf {
	return api.Conf{Size: 128, Pages: 7, Classes: []int{8, 24, 128}, Keep: []int{0, 3, 1}, Step: 16, Slots: 9, Gens: 2, Most: 300}
}

// least and most have each number at its own end of what may be.
func least() api.Conf {
	return api.Conf{Size: 64, Pages: 1, Classes: []int{8}, Keep: []int{0}, Step: 1, Slots: 1, Gens: 1, Most: 1}
}

func most() api.Conf {
	c := api.Conf{Size: 4096, Pages: 1024, Step: 65536, Slots: 4096, Gens: 1023, Most: 4096 * 512}
	for i := range 16 {
		c.Classes = append(c.Classes, 256*(i+1))
		c.Keep = append(c.Keep, 1024)
	}
	return c
}

// number is one of a layout's numbers, with the least and the greatest that it may be where all else is as in some.
type number struct {
	name        string
	least, most int
	of          func(c *api.Conf) *int
}

func numbers() []number {
	return []number{
		{"Pages", 1, 1024, func(c *api.Conf) *int { return &c.Pages }},
		{"Keep 0", 0, 1024, func(c *api.Conf) *int { return &c.Keep[0] }},
		{"Keep 1", 0, 1024, func(c *api.Conf) *int { return &c.Keep[1] }},
		{"Keep 2", 0, 1024, func(c *api.Conf) *int { return &c.Keep[2] }},
		{"Step", 1, 65536, func(c *api.Conf) *int { return &c.Step }},
		{"Slots", 1, 4096, func(c *api.Conf) *int { return &c.Slots }},
		{"Gens", 1, 1023, func(c *api.Conf) *int { return &c.Gens }},
		{"Most", 1, 128 * 16, func(c *api.Conf) *int { return &c.Most }},
	}
}

// farOff are numbers outside of every range, at which a product or a sum may go round to one within it.
func farOff() []int {
	return []int{math.MinInt, math.MinInt + 1, math.MinInt + 64, -1 << 62, -1 << 32, -4096, -128, -64, -8, -1, 1 << 31, 1 << 32, 1<<32 + 128, 1<<32 + 1, 3037000504, 1 << 33, 1 << 62, 1<<62 + 64, math.MaxInt - 7, math.MaxInt - 1, math.MaxInt}
}

func TestExamples(t *testing.T) {
	if got := conf.Large(api.Conf{Size: 64}); got != 512 {
		t.Errorf("Size 64: Large %d, not 512", got)
	}
}

func TestMayAtBothEnds(t *testing.T) {
	for name, c := range map[string]api.Conf{"some": some(), "least": least(), "most": most()} {
		if got := conf.May(c); got != api.OK {
			t.Errorf("%s: %v, not OK", name, got)
		}
	}
	if got := conf.May(api.Conf{}); got != api.ErrArg {
		t.Errorf("the zero value: %v, not ErrArg", got)
	}
}

// TestMayOfNumbers is P3.1 of each number by itself, with all others right.
func TestMayOfNumbers(t *testing.T) {
	for _, one := range numbers() {
		ask := func(n int, want api.Errno) {
			c := some()
			*one.of(&c) = n
			if got := conf.May(c); got != want {
				t.Errorf("%s %d: %v, not %v", one.name, n, got, want)
			}
		}
		for n := one.least - 70; n < one.least; n++ {
			ask(n, api.ErrArg)
		}
		for n := one.least; n <= one.most; n++ {
			ask(n, api.OK)
		}
		for n := one.most + 1; n <= one.most+70; n++ {
			ask(n, api.ErrArg)
		}
		for _, n := range farOff() {
			ask(n, api.ErrArg)
		}
	}
}

// TestMayOfSize is P3.1 of the Size, with a class and a Most that any Size may have, so that the Size alone decides.
func TestMayOfSize(t *testing.T) {
	ask := func(size int) {
		c, want := least(), api.ErrArg
		c.Size = size
		if size >= 64 && size <= 4096 && size%8 == 0 {
			want = api.OK
		}
		if got := conf.May(c); got != want {
			t.Errorf("Size %d: %v, not %v", size, got, want)
		}
	}
	for size := -100; size <= 9000; size++ {
		ask(size)
	}
	for _, size := range farOff() {
		ask(size)
	}
}

// TestMayOfMost is P3.1 of Most at Large, which hangs on the Size.
func TestMayOfMost(t *testing.T) {
	for size := 64; size <= 4096; size += 8 {
		c := least()
		c.Size = size
		for n, want := range map[int]api.Errno{0: api.ErrArg, 1: api.OK, 8: api.OK, size: api.OK, size + 1: api.OK, size*(size/8) - 1: api.OK, size * (size / 8): api.OK, size*(size/8) + 1: api.ErrArg, size * size: api.ErrArg, math.MaxInt: api.ErrArg, -1: api.ErrArg} {
			c.Most = n
			if got := conf.May(c); got != want {
				t.Errorf("Size %d, Most %d: %v, not %v", size, n, got, want)
			}
		}
	}
}

// TestMayOfClasses is P3.1 of Classes, with as many of Keep: class.May's answer of them and the Size.
func TestMayOfClasses(t *testing.T) {
	rising := func(many int) []int {
		sizes := make([]int, many)
		for i := range sizes {
			sizes[i] = 8 * (i + 1)
		}
		return sizes
	}
	for _, one := range []struct {
		sizes []int
		want  api.Errno
	}{
		{[]int{8}, api.OK},
		{[]int{128}, api.OK},
		{[]int{8, 16, 120, 128}, api.OK},
		{rising(15), api.OK},
		{rising(16), api.OK},
		{rising(17), api.ErrArg},
		{nil, api.ErrArg},
		{[]int{}, api.ErrArg},
		{[]int{0}, api.ErrArg},
		{[]int{-8, 8}, api.ErrArg},
		{[]int{7}, api.ErrArg},
		{[]int{8, 20}, api.ErrArg},
		{[]int{8, 8}, api.ErrArg},
		{[]int{24, 16}, api.ErrArg},
		{[]int{136}, api.ErrArg},
		{[]int{8, 136}, api.ErrArg},
		{[]int{8, math.MaxInt - 7}, api.ErrArg},
		{[]int{math.MinInt}, api.ErrArg},
	} {
		c := some()
		c.Classes, c.Keep = one.sizes, make([]int, len(one.sizes))
		if got := conf.May(c); got != one.want {
			t.Errorf("Classes %v: %v, not %v", one.sizes, got, one.want)
		}
	}
	// A class that is as great as the page, and one that is a word greater.
	for size := 64; size <= 4096; size += 8 {
		for last, want := range map[int]api.Errno{size: api.OK, size + 8: api.ErrArg} {
			c := some()
			c.Size, c.Classes, c.Keep = size, []int{8, last}, []int{0, 0}
			if got := conf.May(c); got != want {
				t.Errorf("Size %d, a class of %d: %v, not %v", size, last, got, want)
			}
		}
	}
}

// TestMayOfKeep is P3.1 of how many of Keep there are.
func TestMayOfKeep(t *testing.T) {
	for classes := 1; classes <= 16; classes++ {
		c := most()
		c.Classes = c.Classes[:classes]
		for keeps := range 20 {
			c.Keep = make([]int, keeps)
			want := api.ErrArg
			if keeps == classes {
				want = api.OK
			}
			if got := conf.May(c); got != want {
				t.Errorf("%d of Classes, %d of Keep: %v, not %v", classes, keeps, got, want)
			}
		}
		c.Keep = nil
		if got := conf.May(c); got != api.ErrArg {
			t.Errorf("%d of Classes, no Keep: %v, not ErrArg", classes, got)
		}
	}
	// Each one of the longest list is looked at.
	for at := range 16 {
		for n, want := range map[int]api.Errno{-1: api.ErrArg, 0: api.OK, 1024: api.OK, 1025: api.ErrArg, math.MinInt: api.ErrArg, math.MaxInt: api.ErrArg} {
			c := most()
			c.Keep[at] = n
			if got := conf.May(c); got != want {
				t.Errorf("Keep %d at %d: %v, not %v", n, at, got, want)
			}
		}
	}
}

// TestMayOfTwoWrong spoils two numbers at once: no wrong one makes up for another.
func TestMayOfTwoWrong(t *testing.T) {
	all := append(numbers(), number{"Size", 128, 4096, func(c *api.Conf) *int { return &c.Size }})
	for i, one := range all {
		for _, other := range all[i+1:] {
			for _, a := range []int{one.least - 1, one.most + 1, math.MinInt, math.MaxInt} {
				for _, b := range []int{other.least - 1, other.most + 1, math.MinInt, math.MaxInt} {
					c := some()
					*one.of(&c), *other.of(&c) = a, b
					if got := conf.May(c); got != api.ErrArg {
						t.Errorf("%s %d, %s %d: %v, not ErrArg", one.name, a, other.name, b, got)
					}
				}
			}
		}
	}
}

// TestBlocks is P3.2 of Blocks, which is said of any layout.
func TestBlocks(t *testing.T) {
	for _, one := range []struct {
		size    int
		classes []int
		class   int
		want    int
	}{
		{64, []int{8, 24, 64}, 0, 8},
		{64, []int{8, 24, 64}, 1, 2},
		{64, []int{8, 24, 64}, 2, 1},
		{72, []int{8, 24, 64}, 0, 9},
		{72, []int{8, 24, 64}, 1, 3},
		{72, []int{8, 24, 64}, 2, 1},
		{4096, []int{8, 4096}, 0, 512},
		{4096, []int{8, 4096}, 1, 1},
		{4096, []int{2048, 2056}, 0, 2},
		{4096, []int{2048, 2056}, 1, 1},
		// No such class.
		{64, []int{8, 24, 64}, 3, 0},
		{64, []int{8, 24, 64}, 4, 0},
		{64, []int{8, 24, 64}, -1, 0},
		{64, []int{8, 24, 64}, math.MinInt, 0},
		{64, []int{8, 24, 64}, math.MaxInt, 0},
		{64, nil, 0, 0},
		{64, nil, -1, 0},
		{64, []int{}, 0, 0},
		// Layouts that may not be.
		{0, []int{8}, 0, 0},
		{-64, []int{8}, 0, 0},
		{-64, []int{-8}, 0, 0},
		{math.MinInt, []int{-1}, 0, 0},
		{64, []int{0}, 0, 0},
		{64, []int{-8}, 0, 0},
		{64, []int{math.MinInt}, 0, 0},
		{64, []int{72}, 0, 0},
		{64, []int{math.MaxInt}, 0, 0},
		{65, []int{8}, 0, 8},
		{7, []int{2, 1, 5}, 0, 3},
		{7, []int{2, 1, 5}, 1, 7},
		{7, []int{2, 1, 5}, 2, 1},
		{8192, []int{24, 8}, 0, 341},
		{8192, []int{24, 8}, 1, 1024},
		{math.MaxInt, []int{1, 8}, 0, math.MaxInt},
		{math.MaxInt, []int{1, 8}, 1, 1<<60 - 1},
	} {
		c := api.Conf{Size: one.size, Classes: one.classes}
		if got := conf.Blocks(c, one.class); got != one.want {
			t.Errorf("Size %d, Classes %v: Blocks of %d is %d, not %d", one.size, one.classes, one.class, got, one.want)
		}
	}
}

// TestBlocksBeyondTheList hands in a list with more behind its end: what stands there is no class.
func TestBlocksBeyondTheList(t *testing.T) {
	c := api.Conf{Size: 64, Classes: []int{8, 16, 32}[:2]}
	if got := conf.Blocks(c, 2); got != 0 {
		t.Errorf("Blocks %d, not 0", got)
	}
	if got := conf.Small(c); got != 16 {
		t.Errorf("Small %d, not 16", got)
	}
}

// TestSmall is P3.2 of Small, which is said of any layout.
func TestSmall(t *testing.T) {
	for _, one := range []struct {
		classes []int
		want    int
	}{
		{[]int{8}, 8},
		{[]int{8, 24}, 24},
		{[]int{8, 24, 64}, 64},
		{nil, 0},
		{[]int{}, 0},
		// The last one, not the greatest, of classes that may not be.
		{[]int{64, 8}, 8},
		{[]int{8, 0}, 0},
		{[]int{8, -16}, -16},
		{[]int{math.MinInt}, math.MinInt},
		{[]int{8, math.MaxInt}, math.MaxInt},
		{[]int{8, 13}, 13},
		{make([]int, 40), 0},
	} {
		for _, size := range []int{0, 64, 4096, -1} {
			if got := conf.Small(api.Conf{Size: size, Classes: one.classes}); got != one.want {
				t.Errorf("Size %d, Classes %v: Small %d, not %d", size, one.classes, got, one.want)
			}
		}
	}
	if got := conf.Small(most()); got != 4096 {
		t.Errorf("most: Small %d, not 4096", got)
	}
}

// TestLarge is P3.2 of Large: it hangs on the Size alone.
func TestLarge(t *testing.T) {
	ask := func(size int) {
		want := 0
		if size >= 64 && size <= 4096 && size%8 == 0 {
			// A page for each word of an index page.
			for at := 0; at+8 <= size; at += 8 {
				want += size
			}
		}
		c := some()
		c.Size = size
		if got := conf.Large(c); got != want {
			t.Errorf("Size %d: Large %d, not %d", size, got, want)
		}
		if got := conf.Large(api.Conf{Size: size, Most: -1}); got != want {
			t.Errorf("Size %d and nothing else: Large %d, not %d", size, got, want)
		}
	}
	for size := -100; size <= 9000; size++ {
		ask(size)
	}
	for _, size := range farOff() {
		ask(size)
	}
	for size, want := range map[int]int{64: 512, 72: 648, 128: 2048, 4088: 2088968, 4096: 2097152} {
		if got := conf.Large(api.Conf{Size: size}); got != want {
			t.Errorf("Size %d: Large %d, not %d", size, got, want)
		}
	}
}

// TestWhatFollows is P3.3, of every Size that may be, and of each class that fits on it.
func TestWhatFollows(t *testing.T) {
	for size := 64; size <= 4096; size += 8 {
		for last := 8; last <= size; last += 8 {
			c := api.Conf{Size: size, Pages: 1, Classes: []int{last}, Keep: []int{0}, Step: 1, Slots: 1, Gens: 1, Most: size * (size / 8)}
			if got := conf.May(c); got != api.OK {
				t.Fatalf("%v: %v, not OK", c, got)
			}
			if got := conf.Blocks(c, 0); got < 1 || got > size/8 {
				t.Errorf("Size %d, a class of %d: %d blocks", size, last, got)
			}
		}
	}
	for _, c := range []api.Conf{some(), least(), most()} {
		for at := range c.Classes {
			if got := conf.Blocks(c, at); got < 1 || got > c.Size/8 {
				t.Errorf("%v: class %d has %d blocks", c, at, got)
			}
		}
		small, large := conf.Small(c), conf.Large(c)
		if small > c.Size || c.Size >= large {
			t.Errorf("%v: Small %d, Large %d", c, small, large)
		}
		// Up to Small a class holds it, above it none does.
		for n := 1; n <= large; n++ {
			if held := class.Pick(c.Classes, n) >= 0; held != (n <= small) {
				t.Fatalf("%v: %d is held by a class: %v, but Small is %d", c, n, held, small)
			}
		}
	}
}

// TestHandedInStays is R3: no call writes into a layout's lists, nor behind their ends.
func TestHandedInStays(t *testing.T) {
	c := some()
	c.Classes, c.Keep = []int{8, 24, 128, 1000}[:3], []int{0, 3, 1, 2000}[:3]
	conf.May(c)
	conf.Blocks(c, 1)
	conf.Small(c)
	conf.Large(c)
	if whole := c.Classes[:4]; !slices.Equal(whole, []int{8, 24, 128, 1000}) {
		t.Errorf("Classes came to be %v", whole)
	}
	if whole := c.Keep[:4]; !slices.Equal(whole, []int{0, 3, 1, 2000}) {
		t.Errorf("Keep came to be %v", whole)
	}
}
