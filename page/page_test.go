package page_test

import (
	"math"
	"math/rand"
	"reflect"
	"slices"
	"testing"

	"almery/api"
	"almery/bits"
	"almery/page"
)

// model is a page by the document's words alone: each block's owner, -1 of a free one.
type model []int

func modelOf(blocks int) model { return slices.Repeat(model{-1}, blocks) }

func (o model) has(at int) bool { return at >= 0 && at < len(o) }

func (o model) take(owner int) (int, api.Errno) {
	at := slices.Index(o, -1)
	switch {
	case owner < 0:
		return 0, api.ErrArg
	case at < 0:
		return 0, api.ErrMemory
	}
	o[at] = owner
	return at, api.OK
}

func (o model) give(at int) api.Errno {
	switch {
	case !o.has(at):
		return api.ErrArg
	case o[at] == -1:
		return api.ErrNone
	}
	o[at] = -1
	return api.OK
}

func (o model) own(at, owner int) api.Errno {
	switch {
	case !o.has(at) || owner < 0:
		return api.ErrArg
	case o[at] == -1:
		return api.ErrNone
	}
	o[at] = owner
	return api.OK
}

func (o model) used() int {
	n := 0
	for _, owner := range o {
		if owner != -1 {
			n++
		}
	}
	return n
}

func (o model) top() int {
	top := -1
	for at, owner := range o {
		if owner != -1 {
			top = at
		}
	}
	return top
}

// wrong are numbers that name no block, however many there are.
var wrong = []int{math.MinInt, math.MinInt + 1, math.MinInt + 64, -1 << 32, -513, -512, -65, -64, -2, -1, 512, 513, 576, 1024, 4096, 1 << 31, 1 << 32, 1<<32 + 1, 1 << 62, math.MaxInt - 1, math.MaxInt}

// noOwners are numbers that no owner has, and owners are some that one may have.
var (
	noOwners = []int{-1, -2, -64, -513, -1 << 31, -1 << 32, math.MinInt + 1, math.MinInt}
	owners   = []int{0, 1, 1, 0, 511, 512, 513, 4096, 1 << 31, 1 << 32, 1 << 62, math.MaxInt - 1, math.MaxInt}
)

// edges are how many blocks there may be, about the ends of the words of bits, and at both ends.
var edges = []int{1, 2, 3, 8, 63, 64, 65, 127, 128, 129, 192, 255, 256, 257, 448, 510, 511, 512}

// hold fails, unless all that p tells is what the model tells.
func hold(t *testing.T, what string, p *page.Page, o model) {
	t.Helper()
	for at, owner := range o {
		if got := p.Owner(at); got != owner {
			t.Fatalf("%s: of %d: Owner(%d): %d, not %d", what, len(o), at, got, owner)
		}
	}
	for _, no := range append([]int{len(o), len(o) + 1}, wrong...) {
		if got := p.Owner(no); got != -1 {
			t.Fatalf("%s: of %d: Owner(%d), of no block: %d", what, len(o), no, got)
		}
	}
	holdEnds(t, what, p, o)
}

// holdEnds is of what is told of all blocks at once.
func holdEnds(t *testing.T, what string, p *page.Page, o model) {
	t.Helper()
	used, hole, top := o.used(), slices.Index(o, -1), o.top()
	if p.Used() != used || p.Hole() != hole || p.Top() != top {
		t.Fatalf("%s: of %d: Used %d, Hole %d, Top %d, not %d, %d, %d", what, len(o), p.Used(), p.Hole(), p.Top(), used, hole, top)
	}
	if full := used == len(o); p.Full() != full {
		t.Fatalf("%s: of %d: Full %v, with %d used", what, len(o), p.Full(), used)
	}
}

func made(t *testing.T, blocks int) (*page.Page, model) {
	t.Helper()
	p, err := page.New(blocks)
	if err != api.OK || p == nil {
		t.Fatalf("New(%d): %v", blocks, err)
	}
	return p, modelOf(blocks)
}

// take, give and own do the call to both, and hold what they answer one against the other.
func take(t *testing.T, p *page.Page, o model, owner int) (int, api.Errno) {
	t.Helper()
	got, err := p.Take(owner)
	want, wantErr := o.take(owner)
	if got != want || err != wantErr {
		t.Fatalf("of %d: Take(%d): %d, %v, not %d, %v", len(o), owner, got, err, want, wantErr)
	}
	return got, err
}

func give(t *testing.T, p *page.Page, o model, at int) {
	t.Helper()
	if got, want := p.Give(at), o.give(at); got != want {
		t.Fatalf("of %d: Give(%d): %v, not %v", len(o), at, got, want)
	}
}

func own(t *testing.T, p *page.Page, o model, at, owner int) {
	t.Helper()
	if got, want := p.Own(at, owner), o.own(at, owner); got != want {
		t.Fatalf("of %d: Own(%d, %d): %v, not %v", len(o), at, owner, got, want)
	}
}

// takeAll takes block after block, and asks for one more than there are.
func takeAll(t *testing.T, p *page.Page, o model) {
	t.Helper()
	for n := range len(o) - o.used() + 1 {
		take(t, p, o, n*3)
		holdEnds(t, "taken in turn", p, o)
	}
	hold(t, "all taken", p, o)
}

func TestExample(t *testing.T) {
	p, _ := made(t, 3)
	for at, owner := range []int{7, 8} {
		if got, err := p.Take(owner); got != at || err != api.OK {
			t.Fatalf("Take(%d): %d, %v, not %d", owner, got, err, at)
		}
	}
	if err := p.Give(0); err != api.OK {
		t.Fatalf("Give(0): %v", err)
	}
	if p.Hole() != 0 || p.Top() != 1 {
		t.Errorf("Hole %d, Top %d, not 0, 1", p.Hole(), p.Top())
	}
}

// TestListed is of the chapter's list: what is embedded adds no call of its own by which a page could be changed.
func TestListed(t *testing.T) {
	listed := []string{"Full", "Give", "Hole", "Own", "Owner", "Take", "Top", "Used"}
	var got []string
	for of, n := reflect.TypeFor[*page.Page](), 0; n < of.NumMethod(); n++ {
		got = append(got, of.Method(n).Name)
	}
	if !slices.Equal(got, listed) {
		t.Errorf("a Page has %v, not %v", got, listed)
	}
}

// TestNew is P12.1: bits.New's error, or so many blocks, from 0 on, all of them free.
func TestNew(t *testing.T) {
	for many := -600; many <= 1100; many++ {
		p, err := page.New(many)
		if _, want := bits.New(many); err != want || (p == nil) != (want != api.OK) {
			t.Fatalf("New(%d): %v, not %v", many, err, want)
		}
		if many < 1 || many > 512 {
			if err != api.ErrArg {
				t.Errorf("New(%d): %v, not ErrArg", many, err)
			}
			continue
		}
		hold(t, "new", p, modelOf(many))
	}
	for _, many := range append([]int{0}, wrong...) {
		if many == 512 {
			continue
		}
		if p, err := page.New(many); p != nil || err != api.ErrArg {
			t.Errorf("New(%d): %v, not ErrArg", many, err)
		}
	}
}

// TestTurns is P12.1 and P12.2 of each number of blocks: they are taken in turn, and all of them are given back, from either end.
func TestTurns(t *testing.T) {
	for many := 1; many <= 512; many++ {
		p, o := made(t, many)
		for turn := range 2 {
			takeAll(t, p, o)
			for n := range many {
				at := n
				if turn == 1 {
					at = many - 1 - n
				}
				give(t, p, o, at)
				holdEnds(t, "given back in turn", p, o)
			}
			hold(t, "all given back", p, o)
		}
	}
}

// TestEach is P12.1 to P12.3 of each block alone: of a full page it is given back, handed to nobody, taken again, and handed on.
func TestEach(t *testing.T) {
	for _, many := range edges {
		p, o := made(t, many)
		takeAll(t, p, o)
		for at := range many {
			own(t, p, o, at, at+9)
			hold(t, "handed on", p, o)
			give(t, p, o, at)
			hold(t, "given back", p, o)
			give(t, p, o, at)
			own(t, p, o, at, 5)
			own(t, p, o, at, -1)
			hold(t, "free, and asked for", p, o)
			if got, err := take(t, p, o, at*2); got != at || err != api.OK {
				t.Fatalf("of %d: %d, %v, not %d, the only free one", many, got, err, at)
			}
			hold(t, "taken again", p, o)
		}
	}
}

// TestOwners is P12.1 and P12.2: any owner from 0 on, also one of several blocks, by Take and by Own; the owner is the one that was named last.
func TestOwners(t *testing.T) {
	p, o := made(t, len(owners))
	for _, owner := range owners {
		take(t, p, o, owner)
		hold(t, "taken", p, o)
	}
	for at := range owners {
		for _, owner := range owners {
			own(t, p, o, at, owner)
			own(t, p, o, at, owner)
			hold(t, "handed on", p, o)
		}
		give(t, p, o, at)
		hold(t, "given back", p, o)
		take(t, p, o, 7)
		hold(t, "taken by another one", p, o)
	}
}

// TestErrors is P12.1 and R1: which error, in which order, and that nothing is changed by one.
func TestErrors(t *testing.T) {
	for _, many := range edges {
		p, o := made(t, many)
		refused(t, "all free", p, o)
		for n := range many {
			take(t, p, o, n)
		}
		refused(t, "none free", p, o)
		for _, owner := range owners {
			if at, err := p.Take(owner); at != 0 || err != api.ErrMemory {
				t.Fatalf("of %d: Take(%d), of no free block: %d, %v", many, owner, at, err)
			}
		}
		hold(t, "none free, and asked for", p, o)
		for at := 0; at < many; at += 3 {
			give(t, p, o, at)
		}
		refused(t, "some free", p, o)
		takeAll(t, p, o)
	}
}

// refused fails, unless all that may not be is refused, by errors that are written out.
func refused(t *testing.T, what string, p *page.Page, o model) {
	t.Helper()
	for _, no := range append([]int{len(o), len(o) + 1}, wrong...) {
		for _, owner := range []int{0, 3, -1, math.MinInt} {
			if err := p.Own(no, owner); err != api.ErrArg {
				t.Fatalf("%s: of %d: Own(%d, %d): %v", what, len(o), no, owner, err)
			}
		}
		if err := p.Give(no); err != api.ErrArg {
			t.Fatalf("%s: of %d: Give(%d): %v", what, len(o), no, err)
		}
	}
	for _, owner := range noOwners {
		if at, err := p.Take(owner); at != 0 || err != api.ErrArg {
			t.Fatalf("%s: of %d: Take(%d): %d, %v", what, len(o), owner, at, err)
		}
		for at := range o {
			if err := p.Own(at, owner); err != api.ErrArg {
				t.Fatalf("%s: of %d: Own(%d, %d): %v", what, len(o), at, owner, err)
			}
		}
	}
	for at, owner := range o {
		if owner != -1 {
			continue
		}
		if give, own := p.Give(at), p.Own(at, 4); give != api.ErrNone || own != api.ErrNone {
			t.Fatalf("%s: of %d: Give(%d) %v, and Own %v, of a free block", what, len(o), at, give, own)
		}
	}
	hold(t, what, p, o)
}

// some is a page of which just those blocks aren't free whose bits are set in which.
func some(t *testing.T, blocks, which int) (*page.Page, model) {
	t.Helper()
	p, o := made(t, blocks)
	for at := range blocks {
		take(t, p, o, 10+at%2)
	}
	for at := range blocks {
		if which>>at&1 == 0 {
			give(t, p, o, at)
		}
	}
	hold(t, "some", p, o)
	return p, o
}

// TestAll is P12.1 and P12.2 of all that few blocks may be, and of each call from there.
func TestAll(t *testing.T) {
	for blocks := 1; blocks <= 6; blocks++ {
		for which := range 1 << blocks {
			for owner := -1; owner <= 1; owner++ {
				p, o := some(t, blocks, which)
				take(t, p, o, owner)
				hold(t, "one taken", p, o)
				for at := -1; at <= blocks; at++ {
					p, o := some(t, blocks, which)
					own(t, p, o, at, owner)
					hold(t, "one handed on", p, o)
					give(t, p, o, at)
					hold(t, "one given back", p, o)
				}
			}
		}
	}
}

// TestThereAndBack is P12.3: a block that is taken, and given back, leaves the page as it was, also to what is done afterwards.
func TestThereAndBack(t *testing.T) {
	for blocks := 1; blocks <= 6; blocks++ {
		for which := range 1<<blocks - 1 {
			p, o := some(t, blocks, which)
			was := slices.Clone(o)
			at, err := take(t, p, o, 77)
			if err != api.OK || was[at] != -1 {
				t.Fatalf("of %d, %b: block %d, %v, of the owner %d", blocks, which, at, err, was[at])
			}
			own(t, p, o, at, 78)
			give(t, p, o, at)
			hold(t, "there and back", p, was)
			takeAll(t, p, was)
		}
	}
}

// TestNil is P12.2 of a Page that is nil.
func TestNil(t *testing.T) {
	var p *page.Page
	for _, n := range append([]int{0, 1, 511}, wrong...) {
		if at, err := p.Take(n); at != 0 || err != api.ErrArg {
			t.Errorf("Take(%d): %d, %v", n, at, err)
		}
		if err := p.Give(n); err != api.ErrArg {
			t.Errorf("Give(%d): %v", n, err)
		}
		for _, owner := range []int{-1, 0, 1} {
			if err := p.Own(n, owner); err != api.ErrArg {
				t.Errorf("Own(%d, %d): %v", n, owner, err)
			}
		}
		if got := p.Owner(n); got != -1 {
			t.Errorf("Owner(%d): %d", n, got)
		}
	}
	if p.Used() != 0 || p.Full() || p.Hole() != -1 || p.Top() != -1 {
		t.Errorf("Used %d, Full %v, Hole %d, Top %d", p.Used(), p.Full(), p.Hole(), p.Top())
	}
}

// TestUnmade is P1 of a Page that New didn't make: it has no blocks, and nothing panics.
func TestUnmade(t *testing.T) {
	p, o := new(page.Page), model{}
	hold(t, "unmade", p, o)
	for n := -1; n <= 1; n++ {
		take(t, p, o, n)
		give(t, p, o, n)
		own(t, p, o, n, n)
	}
	hold(t, "unmade, and asked", p, o)
}

// TestApart is R4: two pages have nothing in common.
func TestApart(t *testing.T) {
	a, of := made(t, 70)
	b, other := made(t, 70)
	take(t, a, of, 4)
	take(t, a, of, 5)
	hold(t, "the other one", b, other)
	give(t, a, of, 0)
	take(t, b, other, 6)
	own(t, b, other, 0, 9)
	hold(t, "the one", a, of)
	takeAll(t, b, other)
	takeAll(t, a, of)
}

// TestByWords is P12.1 to P12.3: after any calls all is told as the words have it, and no block that has an owner is told by Take.
func TestByWords(t *testing.T) {
	r := rand.New(rand.NewSource(12))
	for round := range 300 {
		blocks, takes := 1+r.Intn(512), 1+r.Intn(8)
		if round%3 != 0 {
			blocks = 1 + r.Intn(12)
		}
		p, o := made(t, blocks)
		for range 200 {
			switch n := r.Intn(10); {
			case n < takes:
				before := slices.Clone(o)
				if at, err := take(t, p, o, r.Intn(6)-1); err == api.OK && before[at] != -1 {
					t.Fatalf("of %d: block %d has two owners", blocks, at)
				}
			case n == 9:
				own(t, p, o, r.Intn(blocks+2)-1, r.Intn(6)-1)
			default:
				give(t, p, o, r.Intn(min(blocks, 40)+2)-1)
			}
			holdEnds(t, "by chance", p, o)
		}
		hold(t, "by chance, at the end", p, o)
	}
}
