package pool_test

import (
	"math"
	"math/rand"
	"slices"
	"testing"

	"almery/api"
	"almery/pool"
)

// model is a pool by the document's words alone: each page's owner (-1 of a free one), whether it was ever taken, and the free pages that were given back, the last one last.
type model struct {
	owners []int
	taken  []bool
	given  []int
}

func modelOf(pages int) *model {
	return &model{owners: slices.Repeat([]int{-1}, pages), taken: make([]bool, pages)}
}

func (o *model) take(owner int) (int, api.Errno) {
	if owner < 0 {
		return 0, api.ErrArg
	}
	page := slices.Index(o.taken, false)
	if last := len(o.given) - 1; last >= 0 {
		page, o.given = o.given[last], o.given[:last]
	}
	if page < 0 {
		return 0, api.ErrMemory
	}
	o.owners[page], o.taken[page] = owner, true
	return page, api.OK
}

func (o *model) give(page int) api.Errno {
	if page < 0 || page >= len(o.owners) {
		return api.ErrArg
	}
	if o.owners[page] < 0 {
		return api.ErrNone
	}
	o.owners[page] = -1
	o.given = append(o.given, page)
	return api.OK
}

// free is how many pages have no owner.
func (o *model) free() int {
	n := 0
	for _, owner := range o.owners {
		if owner < 0 {
			n++
		}
	}
	return n
}

// wrong are numbers that name no page, however many there are.
var wrong = []int{math.MinInt, math.MinInt + 1, -1 << 32, -1025, -1024, -2, -1, 1024, 1025, 4096, 1 << 31, 1 << 32, 1 << 62, math.MaxInt - 1, math.MaxInt}

// hold fails, unless all that p tells is what the model tells.
func hold(t *testing.T, what string, p *pool.Pool, o *model) {
	t.Helper()
	for page, owner := range o.owners {
		if got := p.Owner(page); got != owner {
			t.Fatalf("%s: Owner(%d): %d, not %d", what, page, got, owner)
		}
	}
	for _, no := range append([]int{len(o.owners)}, wrong...) {
		if got := p.Owner(no); got != -1 {
			t.Fatalf("%s: Owner(%d), of no page: %d", what, no, got)
		}
	}
	free, held := o.free(), len(o.owners)-o.free()
	if p.Free() != free || p.Held() != held {
		t.Fatalf("%s: Free %d, Held %d, not %d, %d", what, p.Free(), p.Held(), free, held)
	}
}

func made(t *testing.T, pages int) (*pool.Pool, *model) {
	t.Helper()
	p, err := pool.New(pages)
	if err != api.OK || p == nil {
		t.Fatalf("New(%d): %v", pages, err)
	}
	return p, modelOf(pages)
}

// take and give do the call to both, and hold one against the other.
func take(t *testing.T, p *pool.Pool, o *model, owner int) (int, api.Errno) {
	t.Helper()
	got, err := p.Take(owner)
	want, wantErr := o.take(owner)
	if got != want || err != wantErr {
		t.Fatalf("Take(%d): %d, %v, not %d, %v", owner, got, err, want, wantErr)
	}
	return got, err
}

func give(t *testing.T, p *pool.Pool, o *model, page int) {
	t.Helper()
	if got, want := p.Give(page), o.give(page); got != want {
		t.Fatalf("Give(%d): %v, not %v", page, got, want)
	}
}

// takeAll takes page after page, and one more than there are.
func takeAll(t *testing.T, p *pool.Pool, o *model) {
	t.Helper()
	for range o.free() + 1 {
		take(t, p, o, len(o.owners))
	}
	hold(t, "all taken", p, o)
}

func TestExample(t *testing.T) {
	p, _ := made(t, 3)
	for _, want := range []int{0, 1} {
		if got, err := p.Take(5); got != want || err != api.OK {
			t.Fatalf("%d, %v, not %d", got, err, want)
		}
	}
	if err := p.Give(0); err != api.OK {
		t.Fatalf("Give(0): %v", err)
	}
	for _, want := range []int{0, 2} {
		if got, err := p.Take(5); got != want || err != api.OK {
			t.Errorf("%d, %v, not %d", got, err, want)
		}
	}
}

// TestNew is P8.1: what may be, and what may not; all pages free, from 0 on.
func TestNew(t *testing.T) {
	for _, pages := range append([]int{0, 1, 2, 3, 64, 1000, 1022, 1023}, wrong...) {
		p, err := pool.New(pages)
		if pages < 1 || pages > 1024 {
			if p != nil || err != api.ErrArg {
				t.Errorf("New(%d): %v, not ErrArg", pages, err)
			}
			continue
		}
		if p == nil || err != api.OK {
			t.Errorf("New(%d): %v, not OK", pages, err)
			continue
		}
		o := modelOf(pages)
		hold(t, "new", p, o)
		give(t, p, o, 0)
		give(t, p, o, pages-1)
		give(t, p, o, pages)
		hold(t, "free ones given back", p, o)
		takeAll(t, p, o)
	}
}

// TestOwn is R4: two pools have nothing in common.
func TestOwn(t *testing.T) {
	a, of := made(t, 3)
	b, other := made(t, 3)
	take(t, a, of, 4)
	take(t, a, of, 5)
	hold(t, "the other one", b, other)
	give(t, a, of, 0)
	take(t, b, other, 6)
	hold(t, "the one", a, of)
	takeAll(t, b, other)
	takeAll(t, a, of)
}

// TestOwners is P8.2 and P8.3: any owner from 0 on, also one of several pages; the owner is the one that took it last.
func TestOwners(t *testing.T) {
	owners := []int{0, 1, 1, 0, 1023, 1024, 4096, 1 << 31, 1 << 32, 1 << 62, math.MaxInt}
	p, o := made(t, len(owners))
	for _, owner := range owners {
		take(t, p, o, owner)
		hold(t, "taken", p, o)
	}
	for page := range owners {
		give(t, p, o, page)
		hold(t, "given back", p, o)
		take(t, p, o, 7)
		hold(t, "taken by another one", p, o)
	}
}

// TestErrors is P8.2: which error, in which order, and that nothing is changed by one.
func TestErrors(t *testing.T) {
	p, o := made(t, 4)
	refuse := func(what string) {
		t.Helper()
		for _, owner := range []int{-1, -2, -1025, -1 << 32, math.MinInt + 1, math.MinInt} {
			if page, err := p.Take(owner); page != 0 || err != api.ErrArg {
				t.Errorf("%s: Take(%d): %d, %v", what, owner, page, err)
			}
		}
		for _, no := range append([]int{4}, wrong...) {
			if err := p.Give(no); err != api.ErrArg {
				t.Errorf("%s: Give(%d): %v", what, no, err)
			}
		}
		for page, owner := range o.owners {
			if owner >= 0 {
				continue
			}
			if err := p.Give(page); err != api.ErrNone {
				t.Errorf("%s: Give(%d), of a free page: %v", what, page, err)
			}
		}
		hold(t, what, p, o)
	}
	refuse("all free")
	for range 3 {
		take(t, p, o, 9)
	}
	refuse("one free")
	give(t, p, o, 1)
	give(t, p, o, 0)
	refuse("two given back")
	for range 3 {
		take(t, p, o, 8)
	}
	refuse("none free")
	for _, owner := range []int{0, 8, math.MaxInt} {
		if page, err := p.Take(owner); page != 0 || err != api.ErrMemory {
			t.Errorf("Take(%d), of no free page: %d, %v", owner, page, err)
		}
	}
	refuse("none free, and asked for")
	give(t, p, o, 2)
	takeAll(t, p, o)
}

// turns are all orders of the numbers below n.
func turns(n int) [][]int {
	all := [][]int{{}}
	for next := range n {
		var longer [][]int
		for _, turn := range all {
			for at := range len(turn) + 1 {
				longer = append(longer, slices.Insert(slices.Clone(turn), at, next))
			}
		}
		all = longer
	}
	return all
}

// TestTurns is P8.2: whatever the turn in which pages are given back, the last one is taken first, and those that were never taken come behind all of them, the least one first.
func TestTurns(t *testing.T) {
	for _, turn := range turns(5) {
		for many := range len(turn) + 1 {
			p, o := made(t, 7)
			for range 5 {
				take(t, p, o, 3)
			}
			for _, page := range turn[:many] {
				give(t, p, o, page)
			}
			hold(t, "given back", p, o)
			takeAll(t, p, o)
			for _, page := range turn {
				give(t, p, o, page)
			}
			takeAll(t, p, o)
		}
	}
}

// TestNil is P8.3 of a pool that is nil.
func TestNil(t *testing.T) {
	var p *pool.Pool
	for _, n := range append([]int{0, 1, 2}, wrong...) {
		if page, err := p.Take(n); page != 0 || err != api.ErrArg {
			t.Errorf("Take(%d): %d, %v", n, page, err)
		}
		if err := p.Give(n); err != api.ErrArg {
			t.Errorf("Give(%d): %v", n, err)
		}
		if got := p.Owner(n); got != -1 {
			t.Errorf("Owner(%d): %d", n, got)
		}
	}
	if p.Free() != 0 || p.Held() != 0 {
		t.Errorf("Free %d, Held %d", p.Free(), p.Held())
	}
}

// TestUnmade is P1 of a pool that New didn't make: it has no pages, and nothing panics.
func TestUnmade(t *testing.T) {
	p, o := new(pool.Pool), modelOf(0)
	hold(t, "unmade", p, o)
	take(t, p, o, 0)
	take(t, p, o, -1)
	give(t, p, o, 0)
	hold(t, "unmade, and asked", p, o)
}

// TestByWords is P8.2 to P8.4: after any calls all is told as the words have it, no page that is held is told by Take, and Free and Held are all pages.
func TestByWords(t *testing.T) {
	r := rand.New(rand.NewSource(8))
	for range 300 {
		pages, takes := 1+r.Intn(12), 1+r.Intn(5)
		p, o := made(t, pages)
		for range 200 {
			if r.Intn(6) < takes {
				before := slices.Clone(o.owners)
				if page, err := take(t, p, o, r.Intn(6)-1); err == api.OK && before[page] != -1 {
					t.Fatalf("page %d has two owners", page)
				}
			} else {
				give(t, p, o, r.Intn(pages+2)-1)
			}
			hold(t, "by chance", p, o)
			if p.Free()+p.Held() != pages {
				t.Fatalf("Free %d, Held %d, of %d", p.Free(), p.Held(), pages)
			}
		}
		takeAll(t, p, o)
	}
}

// TestMost is P8.2 to P8.4 of as many pages as there may be: all of them are taken, given back, and taken again, more than once.
func TestMost(t *testing.T) {
	p, o := made(t, 1024)
	for round := range 3 {
		takeAll(t, p, o)
		for n := range 1024 {
			give(t, p, o, (n*5+round)%1024)
		}
		hold(t, "all given back", p, o)
	}
}
