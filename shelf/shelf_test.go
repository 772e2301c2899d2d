package shelf_test

import (
	"math"
	"math/rand"
	"reflect"
	"slices"
	"testing"

	"almery/api"
	"almery/page"
	"almery/pool"
	"almery/shelf"
)

// stock is a pool by the document's words: whose each page is, -1 of a free one, those that were given back, the last one last, and how many were ever taken.
type stock struct {
	owners []int
	back   []int
	fresh  int
}

func stockOf(pages int) *stock { return &stock{owners: slices.Repeat([]int{-1}, pages)} }

func (k *stock) take(owner int) (int, bool) {
	n := k.fresh
	switch {
	case len(k.back) > 0:
		n = k.back[len(k.back)-1]
		k.back = k.back[:len(k.back)-1]
	case n == len(k.owners):
		return 0, false
	default:
		k.fresh++
	}
	k.owners[n] = owner
	return n, true
}

func (k *stock) give(n int) {
	k.owners[n] = -1
	k.back = append(k.back, n)
}

// model is a shelf by the document's words alone: each page's blocks by their owners, -1 of a free one, and the open pages in turn.
type model struct {
	of     *stock
	class  int
	blocks int
	pages  map[int][]int
	open   []int
}

func modelOf(of *stock, class, blocks int) *model {
	return &model{of: of, class: class, blocks: blocks, pages: map[int][]int{}}
}

func used(blocks []int) int {
	n := 0
	for _, owner := range blocks {
		if owner != -1 {
			n++
		}
	}
	return n
}

func top(blocks []int) int {
	most := -1
	for at, owner := range blocks {
		if owner != -1 {
			most = at
		}
	}
	return most
}

func (o *model) close(n int) {
	o.open = slices.DeleteFunc(o.open, func(other int) bool { return other == n })
}

func (o *model) take(owner int) (int, int, api.Errno) {
	if owner < 0 {
		return 0, 0, api.ErrArg
	}
	if len(o.open) == 0 {
		n, ok := o.of.take(o.class)
		if !ok {
			return 0, 0, api.ErrMemory
		}
		o.pages[n] = slices.Repeat([]int{-1}, o.blocks)
		o.open = []int{n}
	}
	n := o.open[0]
	at := slices.Index(o.pages[n], -1)
	o.pages[n][at] = owner
	if used(o.pages[n]) == o.blocks {
		o.close(n)
	}
	return n, at, api.OK
}

func (o *model) give(n, at int) api.Errno {
	blocks, ok := o.pages[n]
	switch {
	case !ok || at < 0 || at >= o.blocks:
		return api.ErrArg
	case blocks[at] == -1:
		return api.ErrNone
	}
	if used(blocks) == o.blocks {
		o.open = slices.Insert(o.open, 0, n)
	}
	blocks[at] = -1
	if used(blocks) == 0 {
		o.close(n)
		delete(o.pages, n)
		o.of.give(n)
	}
	return api.OK
}

func (o *model) own(n, at, owner int) api.Errno {
	blocks, ok := o.pages[n]
	switch {
	case !ok || at < 0 || at >= o.blocks || owner < 0:
		return api.ErrArg
	case blocks[at] == -1:
		return api.ErrNone
	}
	blocks[at] = owner
	return api.OK
}

func (o *model) plan() (api.Plan, bool) {
	if len(o.open) < 2 {
		return api.Plan{}, false
	}
	from, to := o.open[len(o.open)-1], o.open[0]
	return api.Plan{From: from, FromAt: top(o.pages[from]), To: to, ToAt: slices.Index(o.pages[to], -1)}, true
}

func (o *model) used() int {
	n := 0
	for _, blocks := range o.pages {
		n += used(blocks)
	}
	return n
}

// both are a shelf and its pool, with the model of them.
type both struct {
	s *shelf.Shelf
	p *pool.Pool
	o *model
}

// wrong are numbers that name no page and no block, however many there are, and noOwners such as no owner has.
var (
	wrong    = []int{math.MinInt, math.MinInt + 1, -1 << 32, -1025, -513, -64, -2, -1, 1024, 1025, 4096, 1 << 31, 1 << 32, 1<<32 + 1, 1 << 62, math.MaxInt - 1, math.MaxInt}
	noOwners = []int{-1, -2, -64, -1 << 31, -1 << 32, math.MinInt + 1, math.MinInt}
)

func made(t *testing.T, pages, class, blocks int) both {
	t.Helper()
	p, err := pool.New(pages)
	if err != api.OK {
		t.Fatalf("pool.New(%d): %v", pages, err)
	}
	return beside(t, p, stockOf(pages), class, blocks)
}

// beside is a shelf on a pool that others may have as well.
func beside(t *testing.T, p *pool.Pool, of *stock, class, blocks int) both {
	t.Helper()
	s, err := shelf.New(p, class, blocks)
	if err != api.OK || s == nil {
		t.Fatalf("New(%d, %d): %v", class, blocks, err)
	}
	return both{s: s, p: p, o: modelOf(of, class, blocks)}
}

// hold fails, unless all that the shelf and its pool tell is what the model tells.
func (b both) hold(t *testing.T, what string) {
	t.Helper()
	b.holdEnds(t, what)
	for n, owner := range b.o.of.owners {
		if got := b.p.Owner(n); got != owner {
			t.Fatalf("%s: the pool's page %d is %d's, not %d's", what, n, got, owner)
		}
		for at := range b.o.blocks {
			want := -1
			if blocks, ok := b.o.pages[n]; ok {
				want = blocks[at]
			}
			if got := b.s.Owner(n, at); got != want {
				t.Fatalf("%s: Owner(%d, %d): %d, not %d", what, n, at, got, want)
			}
		}
	}
}

// holdEnds is of what is told of all pages at once, P13.5 with it.
func (b both) holdEnds(t *testing.T, what string) {
	t.Helper()
	if b.s.Pages() != len(b.o.pages) || b.s.Open() != len(b.o.open) || b.s.Used() != b.o.used() {
		t.Fatalf("%s: Pages %d, Open %d, Used %d, not %d, %d, %d", what, b.s.Pages(), b.s.Open(), b.s.Used(), len(b.o.pages), len(b.o.open), b.o.used())
	}
	got, ok := b.s.Plan()
	if want, wantOK := b.o.plan(); got != want || ok != wantOK {
		t.Fatalf("%s: Plan: %+v, %v, not %+v, %v", what, got, ok, want, wantOK)
	}
	free := 0
	for _, owner := range b.o.of.owners {
		if owner == -1 {
			free++
		}
	}
	if b.p.Free() != free || b.p.Held() != len(b.o.of.owners)-free {
		t.Fatalf("%s: of the pool's pages %d are free, %d held, not %d", what, b.p.Free(), b.p.Held(), free)
	}
	b.holdFollows(t, what)
}

// holdFollows is P13.5, by what the shelf tells alone.
func (b both) holdFollows(t *testing.T, what string) {
	t.Helper()
	pages, open, used, blocks := b.s.Pages(), b.s.Open(), b.s.Used(), b.o.blocks
	if least, most := (pages-open)*blocks+open, pages*blocks-open; used < least || used > most {
		t.Fatalf("%s: %d blocks, of %d pages, %d of them open", what, used, pages, open)
	}
	if need := (used + blocks - 1) / blocks; open <= 1 && pages != need {
		t.Fatalf("%s: %d pages, where %d are needed", what, pages, need)
	}
}

// take, give and own do the call to both, and hold what they answer one against the other.
func (b both) take(t *testing.T, owner int) (int, int) {
	t.Helper()
	n, at, err := b.s.Take(owner)
	wantN, wantAt, want := b.o.take(owner)
	if n != wantN || at != wantAt || err != want {
		t.Fatalf("of %d blocks: Take(%d): %d, %d, %v, not %d, %d, %v", b.o.blocks, owner, n, at, err, wantN, wantAt, want)
	}
	return n, at
}

func (b both) give(t *testing.T, n, at int) {
	t.Helper()
	if got, want := b.s.Give(n, at), b.o.give(n, at); got != want {
		t.Fatalf("of %d blocks: Give(%d, %d): %v, not %v", b.o.blocks, n, at, got, want)
	}
}

func (b both) own(t *testing.T, n, at, owner int) {
	t.Helper()
	if got, want := b.s.Own(n, at, owner), b.o.own(n, at, owner); got != want {
		t.Fatalf("of %d blocks: Own(%d, %d, %d): %v, not %v", b.o.blocks, n, at, owner, got, want)
	}
}

// filled takes all blocks of all pages of the pool that are left, and asks for one more.
func (b both) filled(t *testing.T) both {
	t.Helper()
	for n := range len(b.o.of.owners)*b.o.blocks - b.o.used() + 1 {
		b.take(t, n*3)
		b.holdEnds(t, "taken in turn")
	}
	b.hold(t, "all taken")
	return b
}

func TestExample(t *testing.T) {
	b := made(t, 3, 0, 2)
	for owner := range 3 {
		if _, _, err := b.s.Take(owner); err != api.OK {
			t.Fatalf("Take(%d): %v", owner, err)
		}
	}
	if b.s.Pages() != 2 || b.s.Open() != 1 || b.s.Used() != 3 {
		t.Errorf("Pages %d, Open %d, Used %d, not 2, 1, 3", b.s.Pages(), b.s.Open(), b.s.Used())
	}
}

// TestListed is of the chapter's list: a shelf has no other call by which it could be changed.
func TestListed(t *testing.T) {
	listed := []string{"Give", "Open", "Own", "Owner", "Pages", "Plan", "Take", "Used"}
	var got []string
	for of, n := reflect.TypeFor[*shelf.Shelf](), 0; n < of.NumMethod(); n++ {
		got = append(got, of.Method(n).Name)
	}
	if !slices.Equal(got, listed) {
		t.Errorf("a Shelf has %v, not %v", got, listed)
	}
}

// TestNew is P13.1: a pool, a class and blocks that may be, or ErrArg, and a shelf that has taken no page yet.
func TestNew(t *testing.T) {
	p, _ := pool.New(2)
	for blocks := -600; blocks <= 1100; blocks++ {
		_, want := page.New(blocks)
		for _, class := range []int{-1, 0, 15, 16, math.MaxInt} {
			s, err := shelf.New(p, class, blocks)
			if ok := want == api.OK && class >= 0; ok != (err == api.OK) || ok == (s == nil) || !ok && err != api.ErrArg {
				t.Fatalf("New(%d, %d): %v", class, blocks, err)
			}
			if err == api.OK {
				both{s: s, p: p, o: modelOf(stockOf(2), class, blocks)}.hold(t, "new")
			}
		}
		if s, err := shelf.New(nil, 0, blocks); s != nil || err != api.ErrArg {
			t.Fatalf("New(nil, 0, %d): %v", blocks, err)
		}
	}
	for _, no := range noOwners {
		if s, err := shelf.New(p, no, 1); s != nil || err != api.ErrArg {
			t.Errorf("New(%d, 1): %v", no, err)
		}
	}
	for _, no := range append([]int{0, 513}, wrong...) {
		if s, err := shelf.New(p, 0, no); s != nil || err != api.ErrArg {
			t.Errorf("New(0, %d): %v", no, err)
		}
	}
	if p.Held() != 0 {
		t.Errorf("%d pages are held", p.Held())
	}
}

// TestHeld is P13.1 of a pool of which some pages are others' already: they are none of the shelf's, and stay theirs.
func TestHeld(t *testing.T) {
	p, _ := pool.New(5)
	of := stockOf(5)
	for range 3 {
		p.Take(77)
		of.take(77)
	}
	p.Give(1)
	of.give(1)
	b := beside(t, p, of, 4, 2)
	b.hold(t, "new")
	for range 7 {
		b.take(t, 1)
		b.hold(t, "taken")
	}
	for n := range 5 {
		b.give(t, n, 0)
		b.own(t, n, 1, 9)
		b.give(t, n, 1)
		b.hold(t, "given back")
	}
	if p.Owner(0) != 77 || p.Owner(2) != 77 || p.Free() != 3 {
		t.Errorf("the others' pages: %d, %d, free %d", p.Owner(0), p.Owner(2), p.Free())
	}
}

// TestTurns is P13.2 and P13.3 of each number of blocks: all are taken in turn, and given back, from either end.
func TestTurns(t *testing.T) {
	for blocks := 1; blocks <= 512; blocks++ {
		b := made(t, 2, 3, blocks)
		for turn := range 2 {
			b.filled(t)
			for n := range 2 * blocks {
				at := n
				if turn == 1 {
					at = 2*blocks - 1 - n
				}
				b.give(t, at/blocks, at%blocks)
				b.holdEnds(t, "given back in turn")
			}
			b.hold(t, "all given back")
		}
	}
}

// TestManyPages is P13.2 to P13.4 at the most pages that a pool may have.
func TestManyPages(t *testing.T) {
	b := made(t, api.MaxPages, 15, 2)
	for n := range 2*api.MaxPages + 1 {
		b.take(t, n)
	}
	b.hold(t, "all taken")
	for n := range api.MaxPages {
		b.give(t, (n*5+7)%api.MaxPages, n%2)
	}
	b.hold(t, "each open")
	if from, to := 7, (1023*5+7)%api.MaxPages; b.s.Open() != api.MaxPages {
		t.Errorf("Open %d", b.s.Open())
	} else if l, ok := b.s.Plan(); !ok || l != (api.Plan{From: from, FromAt: 1, To: to, ToAt: 1}) {
		t.Errorf("Plan: %+v, %v", l, ok)
	}
	for n := range api.MaxPages {
		b.give(t, (n*5+7)%api.MaxPages, 1-n%2)
	}
	b.hold(t, "all given back")
}

// TestOrder is the word of the open pages: one that becomes open comes ahead of those that are, and stays where it is while it has holes.
func TestOrder(t *testing.T) {
	b := made(t, 3, 0, 3).filled(t)
	plan := func(want api.Plan) {
		t.Helper()
		if got, ok := b.s.Plan(); !ok || got != want {
			t.Fatalf("Plan: %+v, %v, not %+v", got, ok, want)
		}
		b.hold(t, "in turn")
	}
	b.give(t, 1, 2)
	if _, ok := b.s.Plan(); ok {
		t.Fatal("one open page has nowhere to move to")
	}
	b.give(t, 0, 1)
	plan(api.Plan{From: 1, FromAt: 1, To: 0, ToAt: 1})
	b.give(t, 1, 0)
	plan(api.Plan{From: 1, FromAt: 1, To: 0, ToAt: 1})
	b.give(t, 2, 0)
	plan(api.Plan{From: 1, FromAt: 1, To: 2, ToAt: 0})
	b.give(t, 0, 2)
	plan(api.Plan{From: 1, FromAt: 1, To: 2, ToAt: 0})
	if n, at := b.take(t, 50); n != 2 || at != 0 {
		t.Fatalf("taken: %d, %d", n, at)
	}
	plan(api.Plan{From: 1, FromAt: 1, To: 0, ToAt: 1})
	b.give(t, 1, 1)
	if _, ok := b.s.Plan(); ok || b.s.Pages() != 2 || b.p.Owner(1) != -1 {
		t.Fatalf("Pages %d, of which the page 1 is %d's", b.s.Pages(), b.p.Owner(1))
	}
	b.hold(t, "the last one gone")
}

// TestPlanHeeded is P13.4: the block that is taken next is the one at To and ToAt, and by moves of what is planned the shelf comes to one open page at most, with each block where its owner is told.
func TestPlanHeeded(t *testing.T) {
	r := rand.New(rand.NewSource(134))
	for range 200 {
		blocks := 2 + r.Intn(5)
		b := made(t, 6, 1, blocks).filled(t)
		for n := range 6 * blocks {
			if r.Intn(2) == 0 {
				b.give(t, n/blocks, n%blocks)
			}
		}
		count := b.s.Used()
		for l, ok := b.s.Plan(); ok; l, ok = b.s.Plan() {
			owner := b.s.Owner(l.From, l.FromAt)
			if owner < 0 || b.s.Owner(l.To, l.ToAt) != -1 || l.From == l.To {
				t.Fatalf("Plan: %+v, of the owner %d", l, owner)
			}
			if n, at := b.take(t, owner); n != l.To || at != l.ToAt {
				t.Fatalf("Take: %d, %d, where %+v was planned", n, at, l)
			}
			b.give(t, l.From, l.FromAt)
			b.hold(t, "moved")
		}
		if b.s.Open() > 1 || b.s.Used() != count {
			t.Fatalf("Open %d, Used %d, not %d", b.s.Open(), b.s.Used(), count)
		}
	}
}

// TestErrors is P13.2 and P13.3 of what may not be: the errors, in their order, and that nothing is changed by them (R1).
func TestErrors(t *testing.T) {
	for _, blocks := range []int{1, 2, 3, 64, 65, 512} {
		b := made(t, 3, 6, blocks)
		b.refused(t, "none taken")
		b.take(t, 5)
		b.refused(t, "one taken")
		b.filled(t)
		b.refused(t, "all taken")
		if n, at, err := b.s.Take(0); n != 0 || at != 0 || err != api.ErrMemory {
			t.Fatalf("of %d blocks: Take, with no page left: %d, %d, %v", blocks, n, at, err)
		}
		b.hold(t, "no page left")
		b.give(t, 2, 0)
		b.give(t, 0, blocks-1)
		b.refused(t, "some given back")
		b.filled(t)
	}
}

// refused fails, unless all that may not be is refused, by errors that are written out.
func (b both) refused(t *testing.T, what string) {
	t.Helper()
	for _, owner := range noOwners {
		if n, at, err := b.s.Take(owner); n != 0 || at != 0 || err != api.ErrArg {
			t.Fatalf("%s: Take(%d): %d, %d, %v", what, owner, n, at, err)
		}
	}
	for n := range b.o.of.owners {
		if _, ok := b.o.pages[n]; !ok {
			b.refusedAt(t, what, n, 0)
			continue
		}
		for _, at := range append([]int{b.o.blocks}, wrong...) {
			b.refusedAt(t, what, n, at)
		}
		b.refusedBlocks(t, what, n)
	}
	for _, n := range append([]int{len(b.o.of.owners)}, wrong...) {
		b.refusedAt(t, what, n, 0)
	}
	b.hold(t, what)
}

// refusedAt is of a page, or a block, that isn't the shelf's.
func (b both) refusedAt(t *testing.T, what string, n, at int) {
	t.Helper()
	for _, owner := range []int{-1, 0, 8} {
		if err := b.s.Own(n, at, owner); err != api.ErrArg {
			t.Fatalf("%s: Own(%d, %d, %d): %v", what, n, at, owner, err)
		}
	}
	if err := b.s.Give(n, at); err != api.ErrArg || b.s.Owner(n, at) != -1 {
		t.Fatalf("%s: Give(%d, %d): %v, of the owner %d", what, n, at, err, b.s.Owner(n, at))
	}
}

// refusedBlocks is of the blocks of a page: no owner that may not be gets one, and a free one isn't given back.
func (b both) refusedBlocks(t *testing.T, what string, n int) {
	t.Helper()
	for at, owner := range b.o.pages[n] {
		for _, no := range noOwners {
			if err := b.s.Own(n, at, no); err != api.ErrArg {
				t.Fatalf("%s: Own(%d, %d, %d): %v", what, n, at, no, err)
			}
		}
		if owner != -1 {
			continue
		}
		if give, own := b.s.Give(n, at), b.s.Own(n, at, 4); give != api.ErrNone || own != api.ErrNone {
			t.Fatalf("%s: Give(%d, %d): %v, Own: %v, of a free block", what, n, at, give, own)
		}
	}
}

// TestGone is P13.3: a page that went back is the shelf's no more, and comes again, empty, as the last one that was given back.
func TestGone(t *testing.T) {
	for _, blocks := range []int{1, 2, 5} {
		b := made(t, 4, 2, blocks).filled(t)
		for _, n := range []int{2, 0} {
			for at := range blocks {
				if b.s.Pages()+b.p.Free() != 4 {
					t.Fatalf("Pages %d, %d free", b.s.Pages(), b.p.Free())
				}
				b.give(t, n, at)
			}
			b.refused(t, "a page went back")
			if b.p.Owner(n) != -1 || b.s.Open() != 0 {
				t.Fatalf("the page %d is %d's, Open %d", n, b.p.Owner(n), b.s.Open())
			}
		}
		if n, at := b.take(t, 90); n != 0 || at != 0 || b.s.Owner(0, 0) != 90 || b.p.Owner(0) != 2 {
			t.Fatalf("of %d blocks: Take: %d, %d", blocks, n, at)
		}
		b.hold(t, "and comes again")
		b.filled(t)
	}
}

// TestNil is P13.4 of a Shelf that is nil.
func TestNil(t *testing.T) {
	var s *shelf.Shelf
	for _, n := range append([]int{0, 1, 511}, wrong...) {
		if at, of, err := s.Take(n); at != 0 || of != 0 || err != api.ErrArg {
			t.Errorf("Take(%d): %d, %d, %v", n, at, of, err)
		}
		for _, at := range []int{-1, 0, 1} {
			if err := s.Give(n, at); err != api.ErrArg {
				t.Errorf("Give(%d, %d): %v", n, at, err)
			}
			if err := s.Own(n, at, 0); err != api.ErrArg {
				t.Errorf("Own(%d, %d, 0): %v", n, at, err)
			}
			if got := s.Owner(n, at); got != -1 {
				t.Errorf("Owner(%d, %d): %d", n, at, got)
			}
		}
	}
	if l, ok := s.Plan(); ok || l != (api.Plan{}) || s.Pages() != 0 || s.Open() != 0 || s.Used() != 0 {
		t.Errorf("Plan %+v, %v, Pages %d, Open %d, Used %d", l, ok, s.Pages(), s.Open(), s.Used())
	}
}

// TestUnmade is P1 of a Shelf that New didn't make, and of one on such a pool: neither has a page, and nothing panics.
func TestUnmade(t *testing.T) {
	onNone, err := shelf.New(new(pool.Pool), 0, 1)
	if err != api.OK {
		t.Fatalf("New, of a pool without pages: %v", err)
	}
	for want, s := range map[api.Errno]*shelf.Shelf{api.ErrArg: new(shelf.Shelf), api.ErrMemory: onNone} {
		for n := -1; n <= 1; n++ {
			if s.Give(n, 0) != api.ErrArg || s.Own(n, 0, 1) != api.ErrArg || s.Owner(n, 0) != -1 {
				t.Errorf("a page %d", n)
			}
		}
		if n, at, err := s.Take(0); n != 0 || at != 0 || err != want {
			t.Errorf("Take: %d, %d, %v, not %v", n, at, err, want)
		}
		if l, ok := s.Plan(); ok || l != (api.Plan{}) || s.Pages() != 0 || s.Open() != 0 || s.Used() != 0 {
			t.Errorf("Plan %+v, %v, Pages %d, Open %d, Used %d", l, ok, s.Pages(), s.Open(), s.Used())
		}
	}
}

// TestApart is R4: two shelves on pools of their own have nothing in common.
func TestApart(t *testing.T) {
	a, b := made(t, 3, 0, 2), made(t, 3, 0, 2)
	a.filled(t)
	b.hold(t, "the other one")
	b.take(t, 6)
	a.give(t, 1, 1)
	a.give(t, 0, 0)
	b.own(t, 0, 0, 9)
	a.hold(t, "the one")
	b.filled(t)
	a.filled(t)
}

// TestTogether is P13.1 to P13.3 of shelves that have one pool: each has its own pages, the others' are none of its.
func TestTogether(t *testing.T) {
	r := rand.New(rand.NewSource(1313))
	for range 60 {
		p, _ := pool.New(8)
		of := stockOf(8)
		shelves := []both{beside(t, p, of, 0, 1), beside(t, p, of, 1, 2), beside(t, p, of, 2, 4)}
		for range 300 {
			b := shelves[r.Intn(3)]
			if n := r.Intn(12); n < 6 {
				b.take(t, r.Intn(9))
			} else {
				b.give(t, r.Intn(8), r.Intn(b.o.blocks))
			}
			for _, b := range shelves {
				b.hold(t, "together")
			}
		}
	}
}

// TestAll is P13.2 to P13.5 of all that few calls may bring about, of few blocks and pages.
func TestAll(t *testing.T) {
	for _, few := range [][2]int{{1, 1}, {1, 2}, {2, 1}, {2, 2}, {1, 3}, {2, 3}, {3, 2}} {
		pages, blocks := few[0], few[1]
		calls := pages*blocks + 1
		const depth = 5
		many := 1
		for range depth {
			many *= calls
		}
		for which := range many {
			b := made(t, pages, 1, blocks).filled(t)
			for left := range depth {
				if at := which % calls; at == calls-1 {
					b.take(t, 40+left)
				} else {
					b.give(t, at/blocks, at%blocks)
				}
				b.holdEnds(t, "by few calls")
				which /= calls
			}
			b.hold(t, "by few calls")
		}
	}
}

// TestByWords is P13.2 to P13.5: after any calls all is told as the words have it.
func TestByWords(t *testing.T) {
	r := rand.New(rand.NewSource(13))
	for round := range 400 {
		pages, blocks, takes := 1+r.Intn(12), 1+r.Intn(6), 2+r.Intn(7)
		if round%40 == 0 {
			pages, blocks = 1+r.Intn(40), 1+r.Intn(512)
		}
		b := made(t, pages, r.Intn(16), blocks)
		for range 300 {
			switch n := r.Intn(11); {
			case n < takes:
				b.take(t, r.Intn(7)-1)
			case n == 10:
				b.own(t, r.Intn(pages+2)-1, r.Intn(blocks+2)-1, r.Intn(7)-1)
			default:
				b.give(t, r.Intn(pages+2)-1, r.Intn(min(blocks, 20)+2)-1)
			}
			b.holdEnds(t, "by chance")
		}
		b.hold(t, "by chance, at the end")
	}
}
