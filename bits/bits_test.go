package bits_test

import (
	"math"
	"math/rand"
	"testing"

	"almery/api"
	"almery/bits"
)

// model is places by the document's words alone: whether each is set.
type model []bool

func (o model) set(at int, is bool) api.Errno {
	switch {
	case at < 0 || at >= len(o):
		return api.ErrArg
	case o[at] && is:
		return api.ErrThere
	case !o[at] && !is:
		return api.ErrNone
	}
	o[at] = is
	return api.OK
}

func (o model) low() int {
	for at, is := range o {
		if !is {
			return at
		}
	}
	return -1
}

func (o model) high() int {
	high := -1
	for at, is := range o {
		if is {
			high = at
		}
	}
	return high
}

func (o model) count() int {
	n := 0
	for _, is := range o {
		if is {
			n++
		}
	}
	return n
}

// wrong are numbers that name no place, however many there are: also some that a cut to fewer bits, or by a word's size, would make one.
var wrong = []int{math.MinInt, math.MinInt + 1, math.MinInt + 64, -1 << 32, -513, -512, -65, -64, -63, -2, -1, 512, 513, 576, 1024, 1 << 16, 1 << 31, 1 << 32, 1<<32 + 1, 1 << 62, math.MaxInt - 1, math.MaxInt}

// edges are how many places there may be, about each end of a word.
var edges = []int{1, 2, 3, 7, 8, 31, 32, 33, 62, 63, 64, 65, 66, 127, 128, 129, 130, 191, 192, 193, 255, 256, 257, 319, 320, 321, 447, 448, 449, 510, 511, 512}

// hold fails, unless all that b tells is what the model tells.
func hold(t *testing.T, what string, b *bits.Bits, o model) {
	t.Helper()
	for at, is := range o {
		if got := b.Has(at); got != is {
			t.Fatalf("%s: of %d: Has(%d): %v", what, len(o), at, got)
		}
	}
	for no := len(o); no < 600; no++ {
		if b.Has(no) {
			t.Fatalf("%s: of %d: Has(%d), of no place", what, len(o), no)
		}
	}
	for _, no := range wrong {
		if b.Has(no) {
			t.Fatalf("%s: of %d: Has(%d), of no place", what, len(o), no)
		}
	}
	holdEnds(t, what, b, o)
}

// holdEnds is of what is told of all places at once, by the numbers, and by P11.4's words.
func holdEnds(t *testing.T, what string, b *bits.Bits, o model) {
	t.Helper()
	low, high, count := b.Low(), b.High(), b.Count()
	if low != o.low() || high != o.high() || count != o.count() {
		t.Fatalf("%s: of %d: Low %d, High %d, Count %d, not %d, %d, %d", what, len(o), low, high, count, o.low(), o.high(), o.count())
	}
	for at := range low {
		if !b.Has(at) {
			t.Fatalf("%s: of %d: %d isn't set, below Low %d", what, len(o), at, low)
		}
	}
	for at := high + 1; at < len(o); at++ {
		if b.Has(at) {
			t.Fatalf("%s: of %d: %d is set, above High %d", what, len(o), at, high)
		}
	}
}

func made(t *testing.T, many int) (*bits.Bits, model) {
	t.Helper()
	b, err := bits.New(many)
	if err != api.OK || b == nil {
		t.Fatalf("New(%d): %v", many, err)
	}
	return b, make(model, many)
}

// set does the call to both, and holds what they answer one against the other.
func set(t *testing.T, b *bits.Bits, o model, at int, is bool) {
	t.Helper()
	if got, want := b.Set(at, is), o.set(at, is); got != want {
		t.Fatalf("of %d: Set(%d, %v): %v, not %v", len(o), at, is, got, want)
	}
}

func TestExample(t *testing.T) {
	b, _ := made(t, 3)
	for _, at := range []int{0, 1} {
		if err := b.Set(at, true); err != api.OK {
			t.Fatalf("Set(%d, true): %v", at, err)
		}
	}
	if b.Low() != 2 || b.High() != 1 || b.Count() != 2 {
		t.Errorf("Low %d, High %d, Count %d, not 2, 1, 2", b.Low(), b.High(), b.Count())
	}
}

// TestNew is P11.1: what may be, and what may not; no place is set.
func TestNew(t *testing.T) {
	for many := -600; many <= 1100; many++ {
		b, err := bits.New(many)
		if many < 1 || many > 512 {
			if b != nil || err != api.ErrArg {
				t.Errorf("New(%d): %v, not ErrArg", many, err)
			}
			continue
		}
		if b == nil || err != api.OK {
			t.Errorf("New(%d): %v, not OK", many, err)
			continue
		}
		hold(t, "new", b, make(model, many))
	}
	for _, many := range append([]int{0}, wrong...) {
		if many == 512 {
			continue
		}
		if b, err := bits.New(many); b != nil || err != api.ErrArg {
			t.Errorf("New(%d): %v, not ErrArg", many, err)
		}
	}
}

// TestSet is P11.2, by errors that are written out.
func TestSet(t *testing.T) {
	b, o := made(t, 65)
	for _, c := range []struct {
		at  int
		is  bool
		err api.Errno
	}{
		{0, false, api.ErrNone},
		{0, true, api.OK},
		{0, true, api.ErrThere},
		{64, false, api.ErrNone},
		{64, true, api.OK},
		{64, true, api.ErrThere},
		{63, false, api.ErrNone},
		{0, false, api.OK},
		{0, false, api.ErrNone},
		{64, true, api.ErrThere},
		{64, false, api.OK},
		{64, false, api.ErrNone},
		{65, true, api.ErrArg},
		{65, false, api.ErrArg},
		{-1, true, api.ErrArg},
		{-1, false, api.ErrArg},
	} {
		if err := b.Set(c.at, c.is); err != c.err {
			t.Errorf("Set(%d, %v): %v, not %v", c.at, c.is, err, c.err)
		}
		o.set(c.at, c.is)
		hold(t, "set", b, o)
	}
}

// TestEach is P11.2 and P11.3 of each place alone: it is set, and all others aren't; or the other way round.
func TestEach(t *testing.T) {
	for _, many := range edges {
		b, o := made(t, many)
		for at := range many {
			set(t, b, o, at, true)
			hold(t, "one set", b, o)
			set(t, b, o, at, true)
			set(t, b, o, at, false)
			holdEnds(t, "none set", b, o)
			set(t, b, o, at, false)
		}
		for at := range many {
			set(t, b, o, at, true)
		}
		for at := range many {
			set(t, b, o, at, false)
			hold(t, "one not set", b, o)
			set(t, b, o, at, false)
			set(t, b, o, at, true)
			holdEnds(t, "all set", b, o)
			set(t, b, o, at, true)
		}
	}
}

// TestInTurn is P11.3 of however many places: they are set from either end, and let go from either one.
func TestInTurn(t *testing.T) {
	for many := 1; many <= 512; many++ {
		b, o := made(t, many)
		for turn := range 4 {
			for n := range many {
				at := n
				if turn == 1 || turn == 2 {
					at = many - 1 - n
				}
				set(t, b, o, at, turn%2 == 0)
				if n%17 == 0 || n > many-3 {
					holdEnds(t, "in turn", b, o)
				}
			}
			hold(t, "all of them", b, o)
		}
	}
}

// TestAll is P11.2 to P11.4 of all that few places may be, and of each step from there.
func TestAll(t *testing.T) {
	for many := 1; many <= 8; many++ {
		for which := range 1 << many {
			for at := -1; at <= many; at++ {
				for _, is := range []bool{false, true} {
					b, o := made(t, many)
					for place := range many {
						if which>>place&1 != 0 {
							set(t, b, o, place, true)
						}
					}
					holdEnds(t, "some", b, o)
					set(t, b, o, at, is)
					holdEnds(t, "one step on", b, o)
				}
			}
		}
	}
}

// TestErrors is R1: with an error nothing is changed, whatever is set.
func TestErrors(t *testing.T) {
	for _, many := range edges {
		b, o := made(t, many)
		refuse := func(what string) {
			t.Helper()
			for _, is := range []bool{false, true} {
				for no := many; no < 600; no++ {
					if err := b.Set(no, is); err != api.ErrArg {
						t.Fatalf("%s: of %d: Set(%d, %v): %v", what, many, no, is, err)
					}
				}
				for _, no := range wrong {
					if err := b.Set(no, is); err != api.ErrArg {
						t.Fatalf("%s: of %d: Set(%d, %v): %v", what, many, no, is, err)
					}
				}
			}
			for at, is := range o {
				set(t, b, o, at, is)
			}
			hold(t, what, b, o)
		}
		refuse("none set")
		for at := 0; at < many; at += 3 {
			set(t, b, o, at, true)
		}
		refuse("some set")
		for at := range many {
			if !o[at] {
				set(t, b, o, at, true)
			}
		}
		refuse("all set")
	}
}

// TestNil is P11.3 of Bits that are nil.
func TestNil(t *testing.T) {
	var b *bits.Bits
	for _, at := range append([]int{0, 1, 64, 511}, wrong...) {
		for _, is := range []bool{false, true} {
			if err := b.Set(at, is); err != api.ErrArg {
				t.Errorf("Set(%d, %v): %v", at, is, err)
			}
		}
		if b.Has(at) {
			t.Errorf("Has(%d)", at)
		}
	}
	if b.Low() != -1 || b.High() != -1 || b.Count() != 0 {
		t.Errorf("Low %d, High %d, Count %d", b.Low(), b.High(), b.Count())
	}
}

// TestUnmade is P1 of Bits that New didn't make: they have no places, and nothing panics.
func TestUnmade(t *testing.T) {
	b, o := new(bits.Bits), model{}
	hold(t, "unmade", b, o)
	set(t, b, o, 0, true)
	set(t, b, o, 0, false)
	set(t, b, o, -1, true)
	hold(t, "unmade, and asked", b, o)
}

// TestOwn is R4: two Bits have nothing in common.
func TestOwn(t *testing.T) {
	a, of := made(t, 70)
	b, other := made(t, 70)
	set(t, a, of, 0, true)
	set(t, a, of, 69, true)
	hold(t, "the other one", b, other)
	set(t, b, other, 3, true)
	set(t, a, of, 0, false)
	hold(t, "the one", a, of)
	hold(t, "the other one, set", b, other)
}

// TestByWords is P11.2 to P11.4: after any calls all is told as the words have it.
func TestByWords(t *testing.T) {
	r := rand.New(rand.NewSource(11))
	for round := range 400 {
		many, sets := 1+r.Intn(512), 1+r.Intn(9)
		if round%2 == 0 {
			many = edges[r.Intn(len(edges))]
		}
		b, o := made(t, many)
		for range 300 {
			set(t, b, o, r.Intn(many+4)-2, r.Intn(10) < sets)
			holdEnds(t, "by chance", b, o)
		}
		hold(t, "by chance, at the end", b, o)
	}
}
