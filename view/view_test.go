package view_test

import (
	"bytes"
	"math"
	"math/rand"
	"slices"
	"testing"

	"almery/api"
	"almery/arena"
	"almery/meter"
	"almery/view"
)

// model is an arena and a view by the document's words alone: laid is all that the arena's bytes were ever charged, charged all that places were.
type model struct {
	c       api.Conf
	bytes   []byte
	laid    int
	charged int
}

// places are where in the arena a place's bytes are, one by one: nothing, if it isn't the arena's.
func (o *model) places(p api.Place) []int {
	var out []int
	if p.Class == -1 {
		for _, page := range p.Pages {
			if page < 0 || page >= o.c.Pages {
				return nil
			}
			for at := range o.c.Size {
				out = append(out, page*o.c.Size+at)
			}
		}
		return out
	}
	if p.Class < 0 || p.Class >= len(o.c.Classes) || p.Page < 0 || p.Page >= o.c.Pages {
		return nil
	}
	size := o.c.Classes[p.Class]
	if p.Index < 0 || p.Index >= o.c.Size/size {
		return nil
	}
	for at := range size {
		out = append(out, p.Page*o.c.Size+p.Index*size+at)
	}
	return out
}

// some are where the n bytes of a place from at on are; they are charged, if there are such ones.
func (o *model) some(p api.Place, at, n int) ([]int, api.Errno) {
	all := o.places(p)
	if len(all) == 0 {
		return nil, api.ErrArg
	}
	if at < 0 || n < 0 || at > len(all) || n > len(all)-at {
		return nil, api.ErrRange
	}
	o.laid += n
	pages := map[int]bool{}
	for k := at; k < at+n; k++ {
		pages[k/o.c.Size] = true
	}
	if p.Class == -1 {
		o.charged += len(pages)
	}
	return all[at : at+n], api.OK
}

func (o *model) at(p api.Place) int {
	if all := o.places(p); len(all) > 0 && p.Class != -1 {
		return all[0]
	}
	return -1
}

func (o *model) read(p api.Place, at, n int) ([]byte, api.Errno) {
	where, err := o.some(p, at, n)
	var out []byte
	for _, k := range where {
		out = append(out, o.bytes[k])
	}
	return out, err
}

func (o *model) write(p api.Place, at int, b []byte) api.Errno {
	where, err := o.some(p, at, len(b))
	for i, k := range where {
		o.bytes[k] = b[i]
	}
	return err
}

func (o *model) zero(p api.Place, at, n int) api.Errno {
	where, err := o.some(p, at, n)
	for _, k := range where {
		o.bytes[k] = 0
	}
	return err
}

// both are a view, its arena, and the meters of the two, with the model of them. The meters are two, so that it is told who was charged.
type both struct {
	v    *view.View
	a    *arena.Arena
	laid *meter.Meter
	m    *meter.Meter
	o    *model
}

// wrong are numbers that name no class, no page, no block, and no byte.
var wrong = []int{math.MinInt, math.MinInt + 1, -1 << 32, -1025, -64, -2, 1024, 1025, 4097, 1 << 31, 1 << 32, 1<<32 + 1, 1 << 58, 1 << 62, math.MaxInt - 1, math.MaxInt}

// few is a layout of two classes, of which the one leaves none of a page's bytes to spare, the other sixteen.
func few(pages int) api.Conf {
	return api.Conf{Size: 64, Pages: pages, Classes: []int{16, 24}, Keep: []int{0, 1}, Step: 8, Slots: 5, Gens: 3, Most: 512}
}

// made is a view of an arena whose bytes are all other than those beside them.
func made(t *testing.T, c api.Conf) both {
	t.Helper()
	laid, m := meter.New(), meter.New()
	a, err := arena.New(c.Pages, c.Size, laid)
	if err != api.OK {
		t.Fatalf("arena.New: %v", err)
	}
	v, err := view.New(c, a, m)
	if err != api.OK || v == nil {
		t.Fatalf("New(%+v): %v", c, err)
	}
	first := make([]byte, a.Len())
	for k := range first {
		first[k] = byte(1 + k%251)
	}
	a.Write(0, first)
	return both{v: v, a: a, laid: laid, m: m, o: &model{c: c, bytes: first, laid: len(first)}}
}

// hold fails, unless all bytes are as the model's, and both meters were charged as it was.
func (b both) hold(t *testing.T, what string) {
	t.Helper()
	if b.laid.Total() != b.o.laid || b.m.Total() != b.o.charged {
		t.Fatalf("%s: charged %d and %d, not %d and %d", what, b.laid.Total(), b.m.Total(), b.o.laid, b.o.charged)
	}
	all, _ := b.a.Read(0, b.a.Len())
	b.o.laid += b.a.Len()
	if !bytes.Equal(all, b.o.bytes) {
		t.Fatalf("%s: the arena's bytes: %v, not %v", what, all, b.o.bytes)
	}
}

// ask, read, write and zero do the call to both, and hold what they answer one against the other.
func (b both) ask(t *testing.T, p api.Place) {
	t.Helper()
	if got, want := b.v.Holds(p), len(b.o.places(p)); got != want {
		t.Fatalf("Holds(%+v): %d, not %d", p, got, want)
	}
	if got, want := b.v.At(p), b.o.at(p); got != want {
		t.Fatalf("At(%+v): %d, not %d", p, got, want)
	}
}

func (b both) read(t *testing.T, p api.Place, at, n int) {
	t.Helper()
	got, err := b.v.Read(p, at, n)
	want, wantErr := b.o.read(p, at, n)
	if !bytes.Equal(got, want) || err != wantErr {
		t.Fatalf("Read(%+v, %d, %d): %v, %v, not %v, %v", p, at, n, got, err, want, wantErr)
	}
}

func (b both) write(t *testing.T, p api.Place, at int, laid []byte) {
	t.Helper()
	if got, want := b.v.Write(p, at, laid), b.o.write(p, at, laid); got != want {
		t.Fatalf("Write(%+v, %d, %v): %v, not %v", p, at, laid, got, want)
	}
}

func (b both) zero(t *testing.T, p api.Place, at, n int) {
	t.Helper()
	if got, want := b.v.Zero(p, at, n), b.o.zero(p, at, n); got != want {
		t.Fatalf("Zero(%+v, %d, %d): %v, not %v", p, at, n, got, want)
	}
}

// allOf are all places of few's layout, each block, and large ones with each page, and each two.
func allOf(c api.Conf) []api.Place {
	var out []api.Place
	for page := range c.Pages {
		for class, size := range c.Classes {
			for at := range c.Size / size {
				out = append(out, api.Place{Class: class, Page: page, Index: at})
			}
		}
		out = append(out, api.Place{Class: -1, Pages: []int{page}})
		for second := range c.Pages {
			out = append(out, api.Place{Class: -1, Page: page, Pages: []int{second, page}})
		}
	}
	return out
}

// letters are n bytes, each other than the one beside it.
func letters(n int) []byte {
	out := make([]byte, n)
	for i := range out {
		out[i] = 'a' + byte(i%26)
	}
	return out
}

// TestExample is the chapter's: pages of 64, a class of 32: the block 1 of the page 2 begins at 160.
func TestExample(t *testing.T) {
	c := api.Conf{Size: 64, Pages: 3, Classes: []int{32}, Keep: []int{0}, Step: 8, Slots: 5, Gens: 3, Most: 512}
	a, _ := arena.New(3, 64, nil)
	v, _ := view.New(c, a, nil)
	if at := v.At(api.Place{Class: 0, Page: 2, Index: 1}); at != 160 {
		t.Errorf("begins at %d", at)
	}
}

// TestNew is P21.1: layouts that may not be, ahead of arenas that aren't as great as one says.
func TestNew(t *testing.T) {
	m := meter.New()
	a, _ := arena.New(4, 64, m)
	for what, change := range map[string]func(c *api.Conf){
		"no bytes":       func(c *api.Conf) { c.Size = 0 },
		"no word":        func(c *api.Conf) { c.Size = 68 },
		"no pages":       func(c *api.Conf) { c.Pages = 0 },
		"many pages":     func(c *api.Conf) { c.Pages = 1025 },
		"no classes":     func(c *api.Conf) { c.Classes, c.Keep = nil, nil },
		"classes fall":   func(c *api.Conf) { c.Classes = []int{32, 16} },
		"a great class":  func(c *api.Conf) { c.Classes = []int{16, 72} },
		"no class's":     func(c *api.Conf) { c.Keep = []int{0} },
		"keep below 0":   func(c *api.Conf) { c.Keep = []int{0, -1} },
		"no step":        func(c *api.Conf) { c.Step = 0 },
		"no slots":       func(c *api.Conf) { c.Slots = 0 },
		"no generations": func(c *api.Conf) { c.Gens = 0 },
		"nothing":        func(c *api.Conf) { c.Most = 0 },
		"too much":       func(c *api.Conf) { c.Most = 513 },
		"goes round":     func(c *api.Conf) { c.Size, c.Pages = 1<<32, 1<<32 },
		"both below 0":   func(c *api.Conf) { c.Size, c.Pages = -64, -4 },
		"all there is":   func(c *api.Conf) { c.Size, c.Pages = math.MaxInt, math.MinInt },
	} {
		c := few(4)
		change(&c)
		for _, of := range []*arena.Arena{a, nil, new(arena.Arena)} {
			if v, err := view.New(c, of, m); v != nil || err != api.ErrArg {
				t.Errorf("%s: %v, %v", what, v, err)
			}
		}
	}
	for _, x := range []struct{ pages, size int }{{3, 64}, {5, 64}, {4, 72}, {1, 64}, {8, 64}, {1024, 4096}} {
		of, _ := arena.New(x.pages, x.size, m)
		if v, err := view.New(few(4), of, m); v != nil || err != api.ErrArg {
			t.Errorf("an arena of %d times %d: %v, %v", x.pages, x.size, v, err)
		}
	}
	for _, of := range []*arena.Arena{nil, new(arena.Arena)} {
		if v, err := view.New(few(4), of, m); v != nil || err != api.ErrArg {
			t.Errorf("an arena of no bytes: %v, %v", v, err)
		}
	}
	// As many bytes, by other pages: an arena tells no more of itself than that.
	of, _ := arena.New(2, 128, m)
	if v, err := view.New(few(4), of, m); v == nil || err != api.OK {
		t.Errorf("an arena of as many bytes: %v", err)
	}
	if m.Total() != 0 {
		t.Errorf("charged %d", m.Total())
	}
	made(t, few(1)).hold(t, "the least")
	most := api.Conf{Size: 4096, Pages: 1024, Classes: []int{8, 4096}, Keep: []int{1024, 0}, Step: 65536, Slots: 4096, Gens: 1023, Most: 4096 * 512}
	b := made(t, most)
	b.write(t, api.Place{Class: 0, Page: 1023, Index: 511}, 0, letters(8))
	b.write(t, api.Place{Class: 1, Page: 1022}, 1, letters(4095))
	b.write(t, api.Place{Class: -1, Pages: []int{1021, 0}}, 4000, letters(4192))
	b.hold(t, "the greatest")
}

// TestHolds is P21.2, written out: pages of 64 bytes, four of them, and classes of 16 and of 24.
func TestHolds(t *testing.T) {
	b := made(t, few(4))
	for i, x := range []struct {
		p         api.Place
		holds, at int
	}{
		{api.Place{}, 16, 0},
		{api.Place{Index: 1}, 16, 16},
		{api.Place{Index: 3}, 16, 48},
		{api.Place{Index: 4}, 0, -1},
		{api.Place{Index: -1}, 0, -1},
		{api.Place{Page: 3, Index: 3}, 16, 240},
		{api.Place{Page: 4}, 0, -1},
		{api.Place{Page: -1}, 0, -1},
		{api.Place{Page: -1, Index: 3}, 0, -1},
		{api.Place{Class: 1}, 24, 0},
		{api.Place{Class: 1, Page: 2, Index: 1}, 24, 152},
		{api.Place{Class: 1, Page: 2, Index: 2}, 0, -1},
		{api.Place{Class: 1, Page: 3, Index: 1}, 24, 216},
		{api.Place{Class: 1, Page: 2, Index: 1, Pages: []int{9, -1}}, 24, 152},
		{api.Place{Class: 2}, 0, -1},
		{api.Place{Class: 2, Pages: []int{0}}, 0, -1},
		{api.Place{Class: -2}, 0, -1},
		{api.Place{Class: -2, Pages: []int{0}}, 0, -1},
		{api.Place{Class: -1}, 0, -1},
		{api.Place{Class: -1, Pages: []int{}}, 0, -1},
		{api.Place{Class: -1, Pages: []int{0}}, 64, -1},
		{api.Place{Class: -1, Pages: []int{3}}, 64, -1},
		{api.Place{Class: -1, Pages: []int{4}}, 0, -1},
		{api.Place{Class: -1, Pages: []int{-1}}, 0, -1},
		{api.Place{Class: -1, Pages: []int{3, 1, 0}}, 192, -1},
		{api.Place{Class: -1, Pages: []int{3, 4, 0}}, 0, -1},
		{api.Place{Class: -1, Pages: []int{3, 1, -1}}, 0, -1},
		{api.Place{Class: -1, Pages: []int{2, 2, 2, 2, 2}}, 320, -1},
		{api.Place{Class: -1, Page: 7, Index: -7, Pages: []int{2}}, 64, -1},
	} {
		if holds, at := b.v.Holds(x.p), b.v.At(x.p); holds != x.holds || at != x.at {
			t.Errorf("%d: %+v: %d and %d, not %d and %d", i, x.p, holds, at, x.holds, x.at)
		}
		b.ask(t, x.p)
	}
	b.hold(t, "only asked")
}

// TestListed is P21.3, written out: what is told and laid, and what is charged, to the arena's meter and to the view's.
func TestListed(t *testing.T) {
	laid, m := meter.New(), meter.New()
	a, _ := arena.New(4, 64, laid)
	v, _ := view.New(few(4), a, m)
	block, chain := api.Place{Class: 1, Page: 2, Index: 1}, api.Place{Class: -1, Page: 1, Pages: []int{3, 0, 2}}
	for i, x := range []struct {
		p             api.Place
		at            int
		b             string
		laid, charged int
	}{
		{block, 0, "ab", 2, 0}, {block, 22, "yz", 2, 0}, {block, 24, "", 0, 0}, {block, 0, "", 0, 0}, {block, 0, "abcdefghijklmnopqrstuvwx", 24, 0},
		{chain, 0, "A", 1, 1}, {chain, 63, "B", 1, 1}, {chain, 64, "C", 1, 1}, {chain, 62, "DE", 2, 1}, {chain, 63, "FG", 2, 2}, {chain, 127, "HI", 2, 2}, {chain, 191, "J", 1, 1}, {chain, 192, "", 0, 0}, {chain, 64, "", 0, 0},
		{chain, 60, "0123456789012345678901234567890123456789012345678901234567890123456789", 70, 3}, {chain, 64, string(letters(64)), 64, 1}, {chain, 0, string(letters(192)), 192, 3},
	} {
		if err := v.Write(x.p, x.at, []byte(x.b)); err != api.OK || laid.Lap() != x.laid || m.Lap() != x.charged {
			t.Errorf("%d: written: %v", i, err)
		}
		if b, err := v.Read(x.p, x.at, len(x.b)); err != api.OK || string(b) != x.b || laid.Lap() != x.laid || m.Lap() != x.charged {
			t.Errorf("%d: read: %q, %v", i, b, err)
		}
	}
	all, _ := a.Read(0, 256)
	if want := slices.Concat(letters(192)[64:128], make([]byte, 64), letters(192)[128:], letters(64)); !bytes.Equal(all, want) {
		t.Errorf("laid page by page: %q", all)
	}
	laid.Lap()
	if err := v.Zero(chain, 63, 66); err != api.OK || laid.Lap() != 66 || m.Lap() != 3 {
		t.Errorf("zeros: %v", err)
	}
	if b, _ := v.Read(chain, 61, 70); !bytes.Equal(b, slices.Concat(letters(63)[61:], make([]byte, 66), letters(131)[129:])) {
		t.Errorf("behind zeros: %q", b)
	}
	laid.Lap()
	if err := v.Zero(block, 3, 20); err != api.OK || laid.Lap() != 20 || m.Lap() != 3 {
		t.Errorf("zeros of a block: %v", err)
	}
	if b, _ := v.Read(block, 0, 24); b[2] == 0 || b[23] == 0 || !bytes.Equal(b[3:23], make([]byte, 20)) {
		t.Errorf("behind zeros of a block: %q", b)
	}
}

// TestRange is P21.3 at the ends of a place, and of all numbers.
func TestRange(t *testing.T) {
	b := made(t, few(4))
	for _, p := range []api.Place{{}, {Class: 1, Page: 3, Index: 1}, {Class: -1, Pages: []int{3, 1}}, {Class: -1, Pages: []int{0}}} {
		holds := b.v.Holds(p)
		ends := append([]int{-1, 0, 1, holds - 1, holds, holds + 1, 2 * holds}, wrong...)
		for _, at := range ends {
			for _, n := range ends {
				b.read(t, p, at, n)
				b.zero(t, p, at, n)
				if n >= 0 && n <= 4*holds {
					b.write(t, p, at, letters(n))
				}
			}
		}
		b.hold(t, "asked at the ends")
	}
}

// TestFirstError is R1: a place that isn't the arena's goes ahead of bytes that aren't the place's.
func TestFirstError(t *testing.T) {
	b := made(t, few(4))
	for _, p := range []api.Place{{Class: 2}, {Class: -2, Pages: []int{0}}, {Page: 4}, {Page: -1}, {Index: 4}, {Class: 1, Index: 2}, {Index: -1}, {Class: -1}, {Class: -1, Pages: []int{4}}, {Class: -1, Pages: []int{0, -1, 1}}} {
		for _, at := range append([]int{-1, 0, 1, 64}, wrong...) {
			for _, n := range append([]int{-1, 0, 1, 64}, wrong...) {
				if got, err := b.v.Read(p, at, n); err != api.ErrArg || len(got) > 0 {
					t.Errorf("Read(%+v, %d, %d): %v, %v", p, at, n, got, err)
				}
				if err := b.v.Zero(p, at, n); err != api.ErrArg {
					t.Errorf("Zero(%+v, %d, %d): %v", p, at, n, err)
				}
			}
			for _, laid := range [][]byte{nil, letters(1), letters(300)} {
				if err := b.v.Write(p, at, laid); err != api.ErrArg {
					t.Errorf("Write(%+v, %d): %v", p, at, err)
				}
			}
		}
	}
	b.hold(t, "refused")
}

// TestWrong is P21.2 and P21.3 of places at the ends of all numbers.
func TestWrong(t *testing.T) {
	b := made(t, few(4))
	for _, n := range wrong {
		for _, p := range []api.Place{
			{Class: n}, {Class: n, Pages: []int{0}}, {Page: n}, {Class: 1, Page: n}, {Index: n}, {Class: 1, Index: n}, {Page: n, Index: n}, {Class: n, Page: n, Index: n, Pages: []int{n}},
			{Class: -1, Pages: []int{n}}, {Class: -1, Pages: []int{n, 0}}, {Class: -1, Pages: []int{0, n}}, {Class: -1, Pages: []int{0, n, 1}},
		} {
			if b.v.Holds(p) != 0 || b.v.At(p) != -1 || b.v.Write(p, 0, nil) != api.ErrArg {
				t.Errorf("%+v", p)
			}
			b.ask(t, p)
			b.read(t, p, 0, 1)
			b.zero(t, p, 0, 1)
			b.write(t, p, 0, letters(1))
		}
		// What isn't told of such a place doesn't matter.
		b.read(t, api.Place{Class: 1, Page: 1, Index: 1, Pages: []int{n}}, 3, 9)
		b.write(t, api.Place{Class: -1, Page: n, Index: n, Pages: []int{1, 2}}, 60, letters(8))
	}
	b.hold(t, "wrong places")
}

// TestAll holds all bytes of all places against the model: each read, and each write and all zeros from each byte on.
func TestAll(t *testing.T) {
	b := made(t, few(2))
	for _, p := range allOf(b.o.c) {
		b.ask(t, p)
		holds := b.v.Holds(p)
		for at := -1; at <= holds+1; at++ {
			for n := -1; n <= holds-at+1; n++ {
				b.read(t, p, at, n)
				if n >= 0 && n%7 == 0 {
					b.write(t, p, at, letters(n))
				}
				if n%11 == 1 {
					b.zero(t, p, at, n)
				}
			}
		}
		b.hold(t, "a place's bytes")
	}
}

// TestByWords does calls by chance to views of layouts by chance, and holds them against the model.
func TestByWords(t *testing.T) {
	r := rand.New(rand.NewSource(21))
	for range 300 {
		c := few(1 + r.Intn(6))
		c.Size = 64 + 8*r.Intn(12)
		c.Classes = []int{8 * (1 + r.Intn(3)), 8 * (4 + r.Intn(5))}
		b := made(t, c)
		for range 200 {
			p := api.Place{Class: r.Intn(4) - 1, Page: r.Intn(c.Pages+2) - 1, Index: r.Intn(9) - 1}
			for range r.Intn(6) {
				p.Pages = append(p.Pages, r.Intn(c.Pages))
			}
			if len(p.Pages) > 0 && r.Intn(9) == 0 {
				p.Pages[r.Intn(len(p.Pages))] = r.Intn(2)*(c.Pages+1) - 1
			}
			b.ask(t, p)
			holds := len(b.o.places(p))
			at := r.Intn(holds+3) - 1
			n := r.Intn(max(1, holds-at+2)) - r.Intn(2)
			switch r.Intn(3) {
			case 0:
				b.read(t, p, at, n)
			case 1:
				b.write(t, p, at, letters(max(0, n)))
			case 2:
				b.zero(t, p, at, n)
			}
		}
		b.hold(t, "by chance")
	}
}

// TestFollows is P21.4: what was laid is told, and all places that have no byte in common with it are as before.
func TestFollows(t *testing.T) {
	c := few(3)
	all := allOf(c)
	for _, p := range all {
		b := made(t, c)
		laid := slices.Repeat([]byte{255}, b.v.Holds(p))
		mine := map[int]bool{}
		for _, at := range b.o.places(p) {
			mine[at] = true
		}
		before := make([][]byte, len(all))
		for i, q := range all {
			before[i], _ = b.v.Read(q, 0, b.v.Holds(q))
		}
		if err := b.v.Write(p, 0, laid); err != api.OK {
			t.Fatalf("Write(%+v): %v", p, err)
		}
		if got, err := b.v.Read(p, 0, len(laid)); err != api.OK || !bytes.Equal(got, laid) {
			t.Errorf("%+v: %v, %v", p, got, err)
		}
		for i, q := range all {
			if slices.ContainsFunc(b.o.places(q), func(at int) bool { return mine[at] }) {
				continue
			}
			if got, _ := b.v.Read(q, 0, b.v.Holds(q)); !bytes.Equal(got, before[i]) {
				t.Errorf("%+v was laid, and %+v is %v", p, q, got)
			}
		}
	}
}

// TestTwice is P21.3 of a large place that names a page more than once: spans are gone through in turn, so what comes later stands.
func TestTwice(t *testing.T) {
	b := made(t, few(2))
	p := api.Place{Class: -1, Pages: []int{1, 1, 0}}
	b.write(t, p, 0, letters(192))
	if got, _ := b.v.Read(p, 0, 64); !bytes.Equal(got, letters(128)[64:]) {
		t.Errorf("the first page: %q", got)
	}
	b.o.laid, b.o.charged = b.laid.Total(), b.m.Total()
	b.zero(t, p, 10, 60)
	b.read(t, p, 0, 192)
	b.hold(t, "twice")
}

// TestFar is P21.3 of a place that names its pages so often that its bytes end behind those that chain.Cut tells.
func TestFar(t *testing.T) {
	b := made(t, few(3))
	p := api.Place{Class: -1, Pages: slices.Repeat([]int{2, 0, 1}, 100000)}
	far := 1 << 24
	page := far / 64 % 3
	first := []int{2, 0, 1}[page] * 64
	for i, x := range []struct{ at, n, charged int }{{far, 5, 1}, {far - 1, 1, 1}, {far - 1, 2, 2}, {far - 65, 130, 4}, {far + 64, 64, 1}, {64 * 300000, 0, 0}, {64*300000 - 1, 1, 1}} {
		laid := letters(x.n)
		if err := b.v.Write(p, x.at, laid); err != api.OK || b.m.Lap() != x.charged {
			t.Errorf("%d: written: %v", i, err)
		}
		if got, err := b.v.Read(p, x.at, x.n); err != api.OK || !bytes.Equal(got, laid) || b.m.Lap() != x.charged {
			t.Errorf("%d: read: %q, %v", i, got, err)
		}
	}
	b.v.Write(p, far+3, []byte("far"))
	if got, _ := b.a.Read(first+3, 3); string(got) != "far" {
		t.Errorf("in the arena: %q", got)
	}
	b.m.Lap()
	if got, err := b.v.Read(p, 3, 64*300000-5); err != api.OK || len(got) != 64*300000-5 || b.m.Lap() != 300000 || !bytes.Equal(got[far:far+3], []byte("far")) {
		t.Errorf("all bytes but five: %d, %v", len(got), err)
	}
	if got, err := b.v.Read(p, 64*300000-1, 2); err != api.ErrRange || len(got) > 0 {
		t.Errorf("behind all: %v, %v", got, err)
	}
}

// TestNil is P21.3's last sentence.
func TestNil(t *testing.T) {
	var v *view.View
	for _, p := range []api.Place{{}, {Class: -1, Pages: []int{0}}, {Class: -1}, {Class: 5}} {
		for _, at := range []int{-1, 0, math.MaxInt} {
			if got, err := v.Read(p, at, 1); err != api.ErrArg || len(got) > 0 {
				t.Errorf("Read of nil: %v, %v", got, err)
			}
			if v.Write(p, at, letters(2)) != api.ErrArg || v.Write(p, at, nil) != api.ErrArg || v.Zero(p, at, 1) != api.ErrArg {
				t.Error("nil was laid")
			}
		}
		if v.Holds(p) != 0 || v.At(p) != -1 {
			t.Error("nil holds something")
		}
	}
}

// TestUnmade is of a view that New didn't make: it has no places.
func TestUnmade(t *testing.T) {
	v := new(view.View)
	for _, p := range []api.Place{{}, {Class: -1, Pages: []int{0}}, {Class: -1}} {
		if got, err := v.Read(p, 0, 0); err != api.ErrArg || len(got) > 0 {
			t.Errorf("Read: %v, %v", got, err)
		}
		if v.Holds(p) != 0 || v.At(p) != -1 || v.Write(p, 0, nil) != api.ErrArg || v.Zero(p, 0, 0) != api.ErrArg {
			t.Errorf("%+v", p)
		}
	}
}

// TestNoMeter is P21.1 of a meter that is nil: all is as with one, but that nothing is charged.
func TestNoMeter(t *testing.T) {
	a, _ := arena.New(4, 64, nil)
	v, err := view.New(few(4), a, nil)
	if err != api.OK {
		t.Fatal(err)
	}
	p := api.Place{Class: -1, Pages: []int{2, 1}}
	if v.Write(p, 60, letters(8)) != api.OK || v.Zero(p, 63, 2) != api.OK {
		t.Error("not laid")
	}
	if b, err := v.Read(p, 59, 10); err != api.OK || string(b) != "\x00abc\x00\x00fgh\x00" {
		t.Errorf("%q, %v", b, err)
	}
}

// TestHandedInStays is R3: no layout, place or bytes that were handed in are written into, or kept.
func TestHandedInStays(t *testing.T) {
	c := few(4)
	b := made(t, c)
	if !slices.Equal(c.Classes, []int{16, 24}) || !slices.Equal(c.Keep, []int{0, 1}) {
		t.Errorf("the layout: %+v", c)
	}
	c.Classes[0], c.Classes[1], c.Keep[0] = 64, 8, 7
	b.o.c = few(4)
	block, chain := api.Place{Class: 1, Page: 2, Index: 1}, api.Place{Class: -1, Page: 1, Pages: []int{3, 0}}
	b.ask(t, block)
	laid := letters(90)
	b.write(t, block, 0, laid[:24])
	b.write(t, chain, 20, laid)
	b.zero(t, chain, 60, 10)
	b.read(t, chain, 0, 128)
	if !bytes.Equal(laid, letters(90)) || !slices.Equal(chain.Pages, []int{3, 0}) || chain.Page != 1 {
		t.Errorf("handed in: %q, %+v", laid, chain)
	}
	clear(laid)
	chain.Pages[0], chain.Pages[1] = 1, 1
	b.hold(t, "written into what was handed in")
}

// TestToldIsApart is R3: what is read is the caller's own.
func TestToldIsApart(t *testing.T) {
	b := made(t, few(4))
	for _, p := range []api.Place{{Class: 1, Page: 2}, {Class: -1, Pages: []int{3, 0}}, {Class: -1, Pages: []int{1}}} {
		first, _ := b.v.Read(p, 0, 20)
		kept := slices.Clone(first)
		second, _ := b.v.Read(p, 0, 20)
		clear(second)
		_ = append(second[:3], letters(9)...)
		b.o.laid, b.o.charged = b.laid.Total(), b.m.Total()
		b.hold(t, "written into what was told")
		b.write(t, p, 0, letters(20))
		if !bytes.Equal(first, kept) {
			t.Errorf("a later call changes what was told: %v", first)
		}
	}
}

// TestApart is R4: views know nothing of one another.
func TestApart(t *testing.T) {
	one, two := made(t, few(4)), made(t, few(3))
	p := api.Place{Class: -1, Pages: []int{2, 1}}
	one.write(t, p, 10, letters(100))
	two.zero(t, p, 0, 128)
	one.hold(t, "the one")
	two.hold(t, "the other one")
	two.ask(t, api.Place{Page: 3})
	one.ask(t, api.Place{Page: 3})
}
