package room_test

import (
	"math"
	"math/rand"
	"reflect"
	"slices"
	"testing"

	"almery/api"
	"almery/meter"
	"almery/room"
)

// stock is a pool by the document's words: which pages are free, those that were given back, the last one last, and how many were ever taken.
type stock struct {
	free  []bool
	back  []int
	fresh int
}

func (k *stock) left() int {
	n := 0
	for _, free := range k.free {
		if free {
			n++
		}
	}
	return n
}

// take is asked only where a page is left.
func (k *stock) take() int {
	n := k.fresh
	if last := len(k.back) - 1; last >= 0 {
		n = k.back[last]
		k.back = k.back[:last]
	} else {
		k.fresh++
	}
	k.free[n] = false
	return n
}

func (k *stock) give(n int) {
	k.free[n] = true
	k.back = append(k.back, n)
}

// rack is a shelf by the document's words: each page's blocks by their owners, -1 of a free one, and the open pages in turn.
type rack struct {
	blocks int
	pages  map[int][]int
	open   []int
}

func used(blocks []int) int {
	n := 0
	for _, owner := range blocks {
		if owner != -1 {
			n++
		}
	}
	return n
}

func top(blocks []int) int {
	most := -1
	for at, owner := range blocks {
		if owner != -1 {
			most = at
		}
	}
	return most
}

func (k *rack) used() int {
	n := 0
	for _, blocks := range k.pages {
		n += used(blocks)
	}
	return n
}

func (k *rack) close(n int) {
	k.open = slices.DeleteFunc(k.open, func(other int) bool { return other == n })
}

// model is a room by the document's words alone; charged is all that it was ever charged.
type model struct {
	c       api.Conf
	of      *stock
	racks   []*rack
	large   []api.Place
	charged int
}

func modelOf(c api.Conf) *model {
	o := &model{c: c, of: &stock{free: slices.Repeat([]bool{true}, c.Pages)}}
	for _, size := range c.Classes {
		o.racks = append(o.racks, &rack{blocks: c.Size / size, pages: map[int][]int{}})
	}
	return o
}

func (o *model) rack(class int) *rack {
	if class < 0 || class >= len(o.racks) {
		return nil
	}
	return o.racks[class]
}

// classOf is the class of a small thing, -1 of a large one.
func (o *model) classOf(size int) int {
	for class, holds := range o.c.Classes {
		if size <= holds {
			return class
		}
	}
	return -1
}

// pagesOf is how many pages a large thing has: the index page, and the data pages.
func (o *model) pagesOf(size int) int { return 1 + (size+o.c.Size-1)/o.c.Size }

func (o *model) fits(size int) api.Errno {
	if size < 1 || size > o.c.Most {
		return api.ErrSize
	}
	class, left := o.classOf(size), o.of.left()
	if class >= 0 && len(o.racks[class].open) == 0 && left == 0 || class < 0 && left < o.pagesOf(size) {
		return api.ErrMemory
	}
	return api.OK
}

func (o *model) take(class, owner int) (int, int, api.Errno) {
	k := o.rack(class)
	if k == nil || owner < 0 {
		return 0, 0, api.ErrArg
	}
	if len(k.open) == 0 {
		if o.of.left() == 0 {
			return 0, 0, api.ErrMemory
		}
		n := o.of.take()
		k.pages[n] = slices.Repeat([]int{-1}, k.blocks)
		k.open = []int{n}
		o.charged += 4
	}
	n := k.open[0]
	at := slices.Index(k.pages[n], -1)
	k.pages[n][at] = owner
	if used(k.pages[n]) == k.blocks {
		k.close(n)
	}
	o.charged += 3
	return n, at, api.OK
}

func (o *model) give(class, n, at int) api.Errno {
	k := o.rack(class)
	if k == nil {
		return api.ErrArg
	}
	blocks, ok := k.pages[n]
	switch {
	case !ok || at < 0 || at >= k.blocks:
		return api.ErrArg
	case blocks[at] == -1:
		return api.ErrNone
	}
	if used(blocks) == k.blocks {
		k.open = slices.Insert(k.open, 0, n)
	}
	blocks[at] = -1
	if used(blocks) == 0 {
		k.close(n)
		delete(k.pages, n)
		o.of.give(n)
		o.charged += 4
	}
	o.charged += 3
	return api.OK
}

func (o *model) own(class, n, at, owner int) api.Errno {
	k := o.rack(class)
	if k == nil {
		return api.ErrArg
	}
	blocks, ok := k.pages[n]
	switch {
	case !ok || at < 0 || at >= k.blocks || owner < 0:
		return api.ErrArg
	case blocks[at] == -1:
		return api.ErrNone
	}
	blocks[at] = owner
	return api.OK
}

func (o *model) owner(class, n, at int) int {
	if k := o.rack(class); k != nil {
		if blocks, ok := k.pages[n]; ok && at >= 0 && at < k.blocks {
			return blocks[at]
		}
	}
	return -1
}

func (o *model) plan(class int) (api.Plan, bool) {
	k := o.rack(class)
	if k == nil || len(k.open) < 2 {
		return api.Plan{}, false
	}
	from, to := k.open[len(k.open)-1], k.open[0]
	return api.Plan{From: from, FromAt: top(k.pages[from]), To: to, ToAt: slices.Index(k.pages[to], -1)}, true
}

func (o *model) place(owner, size int) (api.Place, api.Errno) {
	if owner < 0 {
		return api.Place{}, api.ErrArg
	}
	if err := o.fits(size); err != api.OK {
		return api.Place{}, err
	}
	if class := o.classOf(size); class >= 0 {
		n, at, _ := o.take(class, owner)
		return api.Place{Class: class, Page: n, Index: at}, api.OK
	}
	p := api.Place{Class: -1, Page: o.of.take()}
	for range o.pagesOf(size) - 1 {
		p.Pages = append(p.Pages, o.of.take())
	}
	o.large = append(o.large, p)
	o.charged += 4 + 5*len(p.Pages)
	return p, api.OK
}

func (o *model) drop(p api.Place) api.Errno {
	if p.Class >= 0 {
		return o.give(p.Class, p.Page, p.Index)
	}
	at := slices.IndexFunc(o.large, func(q api.Place) bool {
		return p.Class == -1 && p.Page == q.Page && slices.Equal(p.Pages, q.Pages)
	})
	if at < 0 {
		return api.ErrArg
	}
	o.large = slices.Delete(o.large, at, at+1)
	o.of.give(p.Page)
	for _, n := range p.Pages {
		o.of.give(n)
	}
	o.charged += 4 + 5*len(p.Pages)
	return api.OK
}

// both are a room and its meter, with the model of them.
type both struct {
	r *room.Room
	m *meter.Meter
	o *model
}

// wrong are numbers that name no class, no page and no block, however many there are, and noOwners such as no owner has.
var (
	wrong    = []int{math.MinInt, math.MinInt + 1, -1 << 32, -1025, -64, -2, -1, 1024, 1025, 4096, 1 << 31, 1 << 32, 1<<32 + 1, 1 << 62, math.MaxInt - 1, math.MaxInt}
	noOwners = []int{-1, -2, -64, -1 << 31, -1 << 32, math.MinInt + 1, math.MinInt}
)

// few is a layout of few pages, of two blocks, and four.
func few(pages int) api.Conf {
	return api.Conf{Size: 64, Pages: pages, Classes: []int{16, 32}, Keep: []int{0, 1}, Step: 8, Slots: 5, Gens: 3, Most: 512}
}

func made(t *testing.T, c api.Conf) both {
	t.Helper()
	m := meter.New()
	r, err := room.New(c, m)
	if err != api.OK || r == nil {
		t.Fatalf("New(%+v): %v", c, err)
	}
	return both{r: r, m: m, o: modelOf(c)}
}

// hold fails, unless all that the room and its meter tell is what the model tells.
func (b both) hold(t *testing.T, what string) {
	t.Helper()
	b.holdEnds(t, what)
	for class := -1; class <= len(b.o.racks); class++ {
		for n := -1; n <= b.o.c.Pages; n++ {
			for at := -1; at <= b.o.c.Size/b.o.c.Classes[0]; at++ {
				if got, want := b.r.Owner(class, n, at), b.o.owner(class, n, at); got != want {
					t.Fatalf("%s: Owner(%d, %d, %d): %d, not %d", what, class, n, at, got, want)
				}
			}
		}
	}
	for size := -2; size <= b.o.c.Most+2; size++ {
		if got, want := b.r.Fits(size), b.o.fits(size); got != want {
			t.Fatalf("%s: Fits(%d): %v, not %v", what, size, got, want)
		}
	}
	b.holdEnds(t, what+", all asked")
}

// holdEnds is of what is told of all blocks and pages at once.
func (b both) holdEnds(t *testing.T, what string) {
	t.Helper()
	if b.m.Total() != b.o.charged {
		t.Fatalf("%s: charged %d, not %d", what, b.m.Total(), b.o.charged)
	}
	if got, want := b.r.Held(), b.o.c.Pages-b.o.of.left(); got != want {
		t.Fatalf("%s: Held %d, not %d", what, got, want)
	}
	for class := -1; class <= len(b.o.racks); class++ {
		open, used := 0, 0
		if k := b.o.rack(class); k != nil {
			open, used = len(k.open), k.used()
		}
		if b.r.Open(class) != open || b.r.Used(class) != used {
			t.Fatalf("%s: the class %d: Open %d, Used %d, not %d, %d", what, class, b.r.Open(class), b.r.Used(class), open, used)
		}
		got, ok := b.r.Plan(class)
		if want, wantOK := b.o.plan(class); got != want || ok != wantOK {
			t.Fatalf("%s: Plan(%d): %+v, %v, not %+v, %v", what, class, got, ok, want, wantOK)
		}
	}
}

// take, give, own, place and drop do the call to both, and hold what they answer one against the other.
func (b both) take(t *testing.T, class, owner int) (int, int) {
	t.Helper()
	n, at, err := b.r.Take(class, owner)
	wantN, wantAt, want := b.o.take(class, owner)
	if n != wantN || at != wantAt || err != want {
		t.Fatalf("Take(%d, %d): %d, %d, %v, not %d, %d, %v", class, owner, n, at, err, wantN, wantAt, want)
	}
	return n, at
}

func (b both) give(t *testing.T, class, n, at int) {
	t.Helper()
	if got, want := b.r.Give(class, n, at), b.o.give(class, n, at); got != want {
		t.Fatalf("Give(%d, %d, %d): %v, not %v", class, n, at, got, want)
	}
}

func (b both) own(t *testing.T, class, n, at, owner int) {
	t.Helper()
	if got, want := b.r.Own(class, n, at, owner), b.o.own(class, n, at, owner); got != want {
		t.Fatalf("Own(%d, %d, %d, %d): %v, not %v", class, n, at, owner, got, want)
	}
}

func same(p, q api.Place) bool {
	return p.Class == q.Class && p.Page == q.Page && p.Index == q.Index && slices.Equal(p.Pages, q.Pages)
}

func (b both) place(t *testing.T, owner, size int) api.Place {
	t.Helper()
	p, err := b.r.Place(owner, size)
	if want, wantErr := b.o.place(owner, size); !same(p, want) || err != wantErr {
		t.Fatalf("Place(%d, %d): %+v, %v, not %+v, %v", owner, size, p, err, want, wantErr)
	}
	return p
}

func (b both) drop(t *testing.T, p api.Place) {
	t.Helper()
	if got, want := b.r.Drop(p), b.o.drop(p); got != want {
		t.Fatalf("Drop(%+v): %v, not %v", p, got, want)
	}
}

// TestExample is the chapter's: pages of 64, a class of 32.
func TestExample(t *testing.T) {
	c := api.Conf{Size: 64, Pages: 9, Classes: []int{32}, Keep: []int{0}, Step: 8, Slots: 5, Gens: 3, Most: 512}
	r, _ := room.New(c, nil)
	if p, err := r.Place(0, 20); err != api.OK || !same(p, api.Place{}) || r.Used(0) != 1 || r.Held() != 1 {
		t.Errorf("a thing of 20: %+v, %v", p, err)
	}
	if p, err := r.Place(1, 100); err != api.OK || !same(p, api.Place{Class: -1, Page: 1, Pages: []int{2, 3}}) || r.Held() != 4 {
		t.Errorf("one of 100: %+v, %v", p, err)
	}
}

// TestNew is P20.1: the errors of layouts, and what a room tells before anything is placed.
func TestNew(t *testing.T) {
	m := meter.New()
	for what, change := range map[string]func(c *api.Conf){
		"no bytes":       func(c *api.Conf) { c.Size = 0 },
		"no word":        func(c *api.Conf) { c.Size = 68 },
		"no pages":       func(c *api.Conf) { c.Pages = 0 },
		"many pages":     func(c *api.Conf) { c.Pages = 1025 },
		"no classes":     func(c *api.Conf) { c.Classes, c.Keep = nil, nil },
		"classes fall":   func(c *api.Conf) { c.Classes = []int{32, 16} },
		"a great class":  func(c *api.Conf) { c.Classes = []int{16, 72} },
		"no class's":     func(c *api.Conf) { c.Keep = []int{0} },
		"keep below 0":   func(c *api.Conf) { c.Keep = []int{0, -1} },
		"no step":        func(c *api.Conf) { c.Step = 0 },
		"no slots":       func(c *api.Conf) { c.Slots = 0 },
		"no generations": func(c *api.Conf) { c.Gens = 0 },
		"nothing":        func(c *api.Conf) { c.Most = 0 },
		"too much":       func(c *api.Conf) { c.Most = 513 },
		"less than all":  func(c *api.Conf) { c.Pages = math.MinInt },
		"more than all":  func(c *api.Conf) { c.Most = math.MaxInt },
	} {
		c := few(4)
		change(&c)
		if r, err := room.New(c, m); r != nil || err != api.ErrArg {
			t.Errorf("%s: %v, %v", what, r, err)
		}
	}
	if m.Total() != 0 {
		t.Errorf("charged %d", m.Total())
	}
	for pages := 1; pages <= 5; pages++ {
		made(t, few(pages)).hold(t, "new")
	}
	most := api.Conf{Size: 4096, Pages: 1024, Classes: []int{8, 4096}, Keep: []int{1024, 0}, Step: 65536, Slots: 4096, Gens: 1023, Most: 4096 * 512}
	made(t, most).holdEnds(t, "new, of the greatest layout")
}

// TestListed is what is placed, charged and told, written out.
func TestListed(t *testing.T) {
	m := meter.New()
	r, _ := room.New(few(6), m)
	for i, x := range []struct {
		owner, size int
		p           api.Place
		charged     int
		held        int
	}{
		{0, 1, api.Place{Class: 0, Page: 0, Index: 0}, 3 + 4, 1},
		{1, 16, api.Place{Class: 0, Page: 0, Index: 1}, 3, 1},
		{2, 17, api.Place{Class: 1, Page: 1, Index: 0}, 3 + 4, 2},
		{3, 32, api.Place{Class: 1, Page: 1, Index: 1}, 3, 2},
		{4, 33, api.Place{Class: -1, Page: 2, Pages: []int{3}}, 4 + 5, 4},
		{4, 64, api.Place{Class: -1, Page: 4, Pages: []int{5}}, 4 + 5, 6},
		{5, 8, api.Place{Class: 0, Page: 0, Index: 2}, 3, 6},
		{6, 9, api.Place{Class: 0, Page: 0, Index: 3}, 3, 6},
	} {
		p, err := r.Place(x.owner, x.size)
		if err != api.OK || !same(p, x.p) || m.Lap() != x.charged || r.Held() != x.held {
			t.Errorf("%d: %+v, %v, %d pages", i, p, err, r.Held())
		}
	}
	for _, size := range []int{1, 16, 17, 32, 33, 512} {
		if p, err := r.Place(0, size); err != api.ErrMemory || !same(p, api.Place{}) || m.Lap() != 0 || r.Fits(size) != api.ErrMemory {
			t.Errorf("a thing of %d, of no page: %+v, %v", size, p, err)
		}
	}
	for i, x := range []struct {
		p       api.Place
		charged int
		held    int
	}{
		{api.Place{Class: 0, Page: 0, Index: 1}, 3, 6},
		{api.Place{Class: 1, Page: 1, Index: 1}, 3, 6},
		{api.Place{Class: 1, Page: 1, Index: 0}, 3 + 4, 5},
		{api.Place{Class: -1, Page: 2, Pages: []int{3}}, 4 + 5, 3},
	} {
		if err := r.Drop(x.p); err != api.OK || m.Lap() != x.charged || r.Held() != x.held {
			t.Errorf("%d: dropped: %v, %d pages", i, err, r.Held())
		}
	}
	// The pages came back as 1, 2, 3: the last one goes first.
	if p, err := r.Place(7, 65); err != api.OK || !same(p, api.Place{Class: -1, Page: 3, Pages: []int{2, 1}}) || m.Lap() != 4+5+5 {
		t.Errorf("behind that: %+v, %v", p, err)
	}
}

// TestBlocks is P20.2: a class's blocks are taken, and given back, without being placed.
func TestBlocks(t *testing.T) {
	m := meter.New()
	r, _ := room.New(few(2), m)
	for i, x := range [][4]int{{1, 0, 0, 7}, {1, 0, 1, 3}, {1, 1, 0, 7}, {1, 1, 1, 3}} {
		n, at, err := r.Take(x[0], 5+i)
		if err != api.OK || n != x[1] || at != x[2] || m.Lap() != x[3] || r.Owner(1, n, at) != 5+i {
			t.Errorf("%d: %d, %d, %v", i, n, at, err)
		}
	}
	for class := range 2 {
		if n, at, err := r.Take(class, 5); n != 0 || at != 0 || err != api.ErrMemory || m.Lap() != 0 {
			t.Errorf("of no page: %d, %d, %v", n, at, err)
		}
	}
	if r.Own(1, 1, 0, 60) != api.OK || r.Owner(1, 1, 0) != 60 || r.Used(1) != 4 || r.Open(1) != 0 {
		t.Errorf("handed on: %d", r.Owner(1, 1, 0))
	}
	for i, x := range []struct {
		n, at, charged int
		err            api.Errno
		open, used     int
	}{
		{1, 1, 3, api.OK, 1, 3}, {1, 1, 0, api.ErrNone, 1, 3}, {0, 0, 3, api.OK, 2, 2}, {1, 0, 7, api.OK, 1, 1}, {1, 0, 0, api.ErrArg, 1, 1}, {0, 1, 7, api.OK, 0, 0},
	} {
		if err := r.Give(1, x.n, x.at); err != x.err || m.Lap() != x.charged || r.Open(1) != x.open || r.Used(1) != x.used {
			t.Errorf("%d: %v, Open %d, Used %d", i, err, r.Open(1), r.Used(1))
		}
	}
	if r.Own(1, 0, 1, 5) != api.ErrArg || r.Held() != 0 || m.Total() != 7+3+7+3+3+3+7+7 {
		t.Errorf("all gone: %d pages, charged %d", r.Held(), m.Total())
	}
}

// TestFits is P20.3, written out: how few pages do, of small things, and of large ones.
func TestFits(t *testing.T) {
	for _, x := range []struct {
		pages, size int
		want        api.Errno
	}{
		{1, 1, api.OK}, {1, 32, api.OK}, {1, 33, api.ErrMemory}, {2, 33, api.OK}, {2, 64, api.OK}, {2, 65, api.ErrMemory}, {3, 65, api.OK}, {3, 128, api.OK}, {3, 129, api.ErrMemory},
		{8, 512, api.ErrMemory}, {8, 448, api.OK}, {9, 512, api.OK}, {9, 513, api.ErrSize}, {9, 0, api.ErrSize}, {9, -1, api.ErrSize}, {9, math.MinInt, api.ErrSize}, {9, math.MaxInt, api.ErrSize}, {1, 1 << 32, api.ErrSize}, {1, 1<<32 + 8, api.ErrSize},
	} {
		b := made(t, few(x.pages))
		if got := b.r.Fits(x.size); got != x.want {
			t.Errorf("of %d pages: Fits(%d): %v", x.pages, x.size, got)
		}
		b.hold(t, "only asked")
		if p, err := b.r.Place(0, x.size); err != x.want || err != api.OK && !same(p, api.Place{}) {
			t.Errorf("of %d pages: Place(0, %d): %+v, %v", x.pages, x.size, p, err)
		}
	}
}

// TestMostBelowSmall is P20.3 of a layout whose greatest thing is below the greatest block.
func TestMostBelowSmall(t *testing.T) {
	c := few(3)
	c.Most = 20
	b := made(t, c)
	for size := range 40 {
		b.place(t, size, size)
	}
	b.hold(t, "things of up to 20")
	c.Classes, c.Keep = []int{64}, []int{0}
	c.Most = 512
	b = made(t, c)
	for _, size := range []int{64, 65, 1, 64} {
		b.place(t, 0, size)
	}
	b.hold(t, "a block a page")
}

// TestFirstError is R1: owner goes ahead of size, and both ahead of pages.
func TestFirstError(t *testing.T) {
	b := made(t, few(1))
	b.place(t, 0, 20)
	for _, owner := range noOwners {
		for _, size := range append([]int{0, 8, 20, 64, 512, 513}, wrong...) {
			if p, err := b.r.Place(owner, size); err != api.ErrArg || !same(p, api.Place{}) {
				t.Errorf("Place(%d, %d): %+v, %v", owner, size, p, err)
			}
		}
		for class := -1; class <= 2; class++ {
			if n, at, err := b.r.Take(class, owner); n != 0 || at != 0 || err != api.ErrArg {
				t.Errorf("Take(%d, %d): %d, %d, %v", class, owner, n, at, err)
			}
		}
		if err := b.r.Own(1, 0, 0, owner); err != api.ErrArg {
			t.Errorf("Own for %d: %v", owner, err)
		}
	}
	for _, owner := range []int{0, 1, 1 << 32, math.MaxInt} {
		if _, err := b.r.Place(owner, 513); err != api.ErrSize {
			t.Errorf("Place(%d, 513): %v", owner, err)
		}
		if b.r.Own(1, 0, 0, owner) != api.OK || b.r.Owner(1, 0, 0) != owner {
			t.Errorf("Own for %d", owner)
		}
	}
	b.o.own(1, 0, 0, math.MaxInt)
	b.hold(t, "refused")
}

// TestNoClass is P20.2 of classes that there aren't.
func TestNoClass(t *testing.T) {
	b := made(t, few(3))
	b.place(t, 0, 20)
	b.place(t, 1, 40)
	for _, class := range append([]int{2, 3, 16}, wrong...) {
		if n, at, err := b.r.Take(class, 0); n != 0 || at != 0 || err != api.ErrArg {
			t.Errorf("Take(%d, 0): %d, %d, %v", class, n, at, err)
		}
		if b.r.Give(class, 0, 0) != api.ErrArg || b.r.Own(class, 0, 0, 1) != api.ErrArg || b.r.Owner(class, 0, 0) != -1 {
			t.Errorf("a block of the class %d", class)
		}
		if l, ok := b.r.Plan(class); ok || l != (api.Plan{}) || b.r.Open(class) != 0 || b.r.Used(class) != 0 {
			t.Errorf("the class %d: %+v, %v", class, l, ok)
		}
	}
	b.hold(t, "asked of no class")
}

// TestNoBlock is P20.2 of blocks that there aren't, or are another class's, or a large thing's.
func TestNoBlock(t *testing.T) {
	b := made(t, few(4))
	b.place(t, 7, 20)
	b.place(t, 8, 40)
	for _, x := range []struct {
		class, n, at int
		err          api.Errno
	}{
		{1, 0, 1, api.ErrNone}, {1, 0, 2, api.ErrArg}, {1, 0, -1, api.ErrArg}, {1, 1, 0, api.ErrArg}, {1, 2, 0, api.ErrArg}, {1, 3, 0, api.ErrArg}, {1, -1, 0, api.ErrArg}, {0, 0, 0, api.ErrArg}, {0, 1, 0, api.ErrArg},
	} {
		if err := b.r.Give(x.class, x.n, x.at); err != x.err {
			t.Errorf("Give(%d, %d, %d): %v", x.class, x.n, x.at, err)
		}
		if err := b.r.Drop(api.Place{Class: x.class, Page: x.n, Index: x.at}); err != x.err {
			t.Errorf("Drop of %d, %d, %d: %v", x.class, x.n, x.at, err)
		}
		if err := b.r.Own(x.class, x.n, x.at, 9); err != x.err {
			t.Errorf("Own(%d, %d, %d, 9): %v", x.class, x.n, x.at, err)
		}
	}
	for _, n := range wrong {
		if b.r.Give(1, n, 0) != api.ErrArg || b.r.Give(1, 0, n) != api.ErrArg || b.r.Own(1, n, 0, 1) != api.ErrArg || b.r.Own(1, 0, n, 1) != api.ErrArg || b.r.Owner(1, n, 0) != -1 || b.r.Owner(1, 0, n) != -1 {
			t.Errorf("the block, or the page, %d", n)
		}
	}
	b.hold(t, "refused")
}

// TestDropRefused is P20.4: what isn't just a large thing's place.
func TestDropRefused(t *testing.T) {
	b := made(t, few(12))
	b.place(t, 0, 20)
	one, two := b.place(t, 1, 130), b.place(t, 2, 60)
	if !slices.Equal(one.Pages, []int{2, 3, 4}) || !slices.Equal(two.Pages, []int{6}) {
		t.Fatalf("%+v, %+v", one, two)
	}
	for i, p := range []api.Place{
		{Class: -1}, {Class: -1, Page: 1}, {Class: -1, Page: 1, Pages: []int{}}, {Class: -1, Page: 1, Pages: []int{2}}, {Class: -1, Page: 1, Pages: []int{2, 3}},
		{Class: -1, Page: 1, Pages: []int{3, 2, 4}}, {Class: -1, Page: 1, Pages: []int{2, 3, 4, 5}}, {Class: -1, Page: 1, Pages: []int{2, 3, 5}}, {Class: -1, Page: 1, Pages: []int{2, 3, 4, 4}},
		{Class: -1, Page: 2, Pages: []int{3, 4}}, {Class: -1, Page: 2, Pages: []int{2, 3, 4}}, {Class: -1, Page: 5, Pages: []int{2, 3, 4}}, {Class: -1, Page: 1, Pages: []int{6}}, {Class: -1, Page: 6},
		{Class: -1, Page: 0}, {Class: -1, Page: 7}, {Class: -1, Page: 7, Pages: []int{8}}, {Class: -1, Page: -1, Pages: []int{2, 3, 4}},
		{Class: -2, Page: 1, Pages: []int{2, 3, 4}}, {Class: math.MinInt, Page: 1, Pages: []int{2, 3, 4}}, {Class: math.MaxInt, Page: 1, Pages: []int{2, 3, 4}}, {Class: 2, Page: 1, Pages: []int{2, 3, 4}}, {Class: 0, Page: 1, Pages: []int{2, 3, 4}},
	} {
		if err := b.r.Drop(p); err != api.ErrArg {
			t.Errorf("%d: %v", i, err)
		}
		b.holdEnds(t, "refused")
	}
	// Index is told of no large place: what stands there doesn't matter.
	one.Index = 3
	for _, p := range []api.Place{one, two} {
		b.drop(t, p)
		b.hold(t, "dropped")
		if err := b.r.Drop(p); err != api.ErrArg {
			t.Errorf("dropped once more: %v", err)
		}
	}
	b.hold(t, "at the end")
}

// TestDropPages is P20.4 of a small thing's place: its Pages don't matter.
func TestDropPages(t *testing.T) {
	b := made(t, few(3))
	p := b.place(t, 0, 20)
	p.Pages = []int{1, 2}
	b.drop(t, p)
	b.hold(t, "dropped")
}

// TestReused is P20.4: a large thing at the place of one that was dropped, of fewer pages, is another one.
func TestReused(t *testing.T) {
	b := made(t, few(5))
	old := b.place(t, 0, 200)
	b.drop(t, old)
	b.drop(t, old)
	fresh := b.place(t, 0, 100)
	if fresh.Page != 4 || !slices.Equal(fresh.Pages, []int{3, 2}) {
		t.Fatalf("the last one that came back goes first: %+v", fresh)
	}
	again := b.place(t, 0, 30)
	b.drop(t, old)
	b.drop(t, api.Place{Class: -1, Page: 4, Pages: []int{3}})
	b.drop(t, fresh)
	b.drop(t, again)
	b.hold(t, "reused")
}

// TestNoMeter is P20.1 of a meter that is nil: all is as with one, but that nothing is charged.
func TestNoMeter(t *testing.T) {
	with := made(t, few(6))
	r, err := room.New(few(6), nil)
	if err != api.OK {
		t.Fatal(err)
	}
	for i, size := range []int{20, 16, 100, 32, 1, 17, 512, 64, 0} {
		p, err := r.Place(i, size)
		q, want := with.r.Place(i, size)
		if !same(p, q) || err != want {
			t.Errorf("%d: %+v, %v, not %+v, %v", size, p, err, q, want)
		}
		if i%2 == 0 && r.Drop(p) != with.r.Drop(q) {
			t.Errorf("%d: dropped", size)
		}
	}
	if r.Held() != with.r.Held() {
		t.Errorf("Held %d, not %d", r.Held(), with.r.Held())
	}
}

// TestSharedMeter is P20.1: what stands on the meter already stays, and is added to.
func TestSharedMeter(t *testing.T) {
	m := meter.New()
	m.Charge(100)
	one, _ := room.New(few(3), m)
	two, _ := room.New(few(3), m)
	one.Place(0, 20)
	two.Place(0, 40)
	if m.Total() != 100+7+9 {
		t.Errorf("charged %d", m.Total())
	}
}

func TestNil(t *testing.T) {
	holdNothing(t, nil, api.ErrArg)
}

// TestUnmade is P1 of a Room that New didn't make: it has nothing, and nothing panics.
func TestUnmade(t *testing.T) {
	holdNothing(t, new(room.Room), api.ErrSize)
}

// holdNothing fails, unless the room has no class, and no page, and no thing fits, by that error.
func holdNothing(t *testing.T, r *room.Room, noFit api.Errno) {
	t.Helper()
	for _, n := range append([]int{0, 1, 20, 100}, wrong...) {
		if err := r.Fits(n); err != noFit {
			t.Errorf("Fits(%d): %v", n, err)
		}
		if p, err := r.Place(0, n); err != noFit || !same(p, api.Place{}) {
			t.Errorf("Place(0, %d): %+v, %v", n, p, err)
		}
		if p, err := r.Place(-1, n); err != api.ErrArg || !same(p, api.Place{}) {
			t.Errorf("Place(-1, %d): %+v, %v", n, p, err)
		}
		for _, p := range []api.Place{{Class: n}, {Class: -1, Page: n}, {Class: -1, Page: n, Pages: []int{1}}, {Page: n}, {Index: n}} {
			if err := r.Drop(p); err != api.ErrArg {
				t.Errorf("Drop(%+v): %v", p, err)
			}
		}
		if m, at, err := r.Take(n, 0); m != 0 || at != 0 || err != api.ErrArg {
			t.Errorf("Take(%d, 0): %d, %d, %v", n, m, at, err)
		}
		if r.Give(n, 0, 0) != api.ErrArg || r.Give(0, n, 0) != api.ErrArg || r.Own(n, 0, 0, 0) != api.ErrArg || r.Own(0, n, 0, 0) != api.ErrArg || r.Owner(n, 0, 0) != -1 || r.Owner(0, n, 0) != -1 {
			t.Errorf("a block of %d", n)
		}
		if l, ok := r.Plan(n); ok || l != (api.Plan{}) || r.Open(n) != 0 || r.Used(n) != 0 {
			t.Errorf("the class %d: %+v, %v", n, l, ok)
		}
	}
	if r.Held() != 0 {
		t.Errorf("Held %d", r.Held())
	}
}

// TestHandedInStays is R3: no call changes a layout, or a place, that was handed in.
func TestHandedInStays(t *testing.T) {
	c := few(9)
	b := made(t, c)
	if !reflect.DeepEqual(c, few(9)) {
		t.Errorf("the layout is %+v", c)
	}
	p := b.place(t, 0, 200)
	was := slices.Clone(p.Pages)
	for range 2 {
		b.drop(t, p)
		if p.Class != -1 || p.Page != 0 || p.Index != 0 || !slices.Equal(p.Pages, was) {
			t.Errorf("dropped, the place is %+v", p)
		}
	}
	b.place(t, 1, 60)
	b.place(t, 2, 300)
	if !slices.Equal(p.Pages, was) || !reflect.DeepEqual(c, few(9)) {
		t.Errorf("later, the place is %+v, the layout %+v", p, c)
	}
}

// TestToldIsApart is R3: a place that was told, and the layout, share no memory with the room.
func TestToldIsApart(t *testing.T) {
	c := few(9)
	b := made(t, c)
	b.o.c.Classes = slices.Clone(c.Classes)
	c.Classes[0], c.Classes[1], c.Keep[0] = 8, 8, 9
	p := b.place(t, 0, 200)
	q := api.Place{Class: p.Class, Page: p.Page, Pages: slices.Clone(p.Pages)}
	p.Pages[0], p.Pages[1] = 8, 8
	b.place(t, 1, 20)
	b.drop(t, p)
	b.hold(t, "written into what was told")
	b.drop(t, q)
	b.hold(t, "dropped by what was told")
}

// TestApart is R4: two rooms have nothing in common.
func TestApart(t *testing.T) {
	a, b := made(t, few(5)), made(t, few(5))
	p := a.place(t, 0, 100)
	a.place(t, 1, 20)
	b.hold(t, "the other one")
	b.drop(t, p)
	b.place(t, 2, 10)
	a.hold(t, "the one")
}

// TestMany is P20.3 and P20.4 of the greatest things, and of all pages.
func TestMany(t *testing.T) {
	c := api.Conf{Size: 4096, Pages: 1024, Classes: []int{2048}, Keep: []int{0}, Step: 8, Slots: 5, Gens: 3, Most: 4096 * 512}
	b := made(t, c)
	p := b.place(t, 0, 4096*512)
	q := b.place(t, 1, 4096*510)
	if len(p.Pages) != 512 || len(q.Pages) != 510 || b.r.Held() != 1024 {
		t.Fatalf("%d and %d pages, %d held", len(p.Pages), len(q.Pages), b.r.Held())
	}
	b.place(t, 2, 2048)
	b.drop(t, p)
	b.place(t, 2, 4096*511)
	b.drop(t, q)
	b.holdEnds(t, "many pages")
}

// TestFollows is P20.5: what fits is placed; what was placed, and dropped, leaves as many pages free as before; no block, and no page, is two things'.
func TestFollows(t *testing.T) {
	r := rand.New(rand.NewSource(205))
	for range 100 {
		c := anyConf(r)
		of, _ := room.New(c, nil)
		var things []api.Place
		for range 80 {
			size, held := 1+r.Intn(c.Most), of.Held()
			fits := of.Fits(size)
			p, err := of.Place(r.Intn(5), size)
			if err != fits {
				t.Fatalf("%d fits: %v, placed: %v", size, fits, err)
			}
			if err == api.OK && r.Intn(2) == 0 {
				if of.Drop(p) != api.OK || of.Held() != held {
					t.Fatalf("%d: %d pages, and %d before", size, of.Held(), held)
				}
				err = api.ErrNone
			}
			if err == api.OK {
				things = append(things, p)
			}
			if n := len(things); n > 0 && r.Intn(4) == 0 {
				at := r.Intn(n)
				of.Drop(things[at])
				things = slices.Delete(things, at, at+1)
			}
			holdApart(t, of, things)
		}
	}
}

// holdApart fails, if a block, or a page, is two things', or the pages that are held aren't the things'.
func holdApart(t *testing.T, of *room.Room, things []api.Place) {
	t.Helper()
	blocks, pages := map[[3]int]bool{}, map[int]int{}
	for _, p := range things {
		if p.Class >= 0 {
			at := [3]int{p.Class, p.Page, p.Index}
			if whose, held := pages[p.Page]; blocks[at] || held && whose != p.Class {
				t.Fatalf("the block %v is two things'", at)
			}
			blocks[at] = true
			pages[p.Page] = p.Class
			continue
		}
		for _, n := range append([]int{p.Page}, p.Pages...) {
			if _, held := pages[n]; held {
				t.Fatalf("the page %d is two things'", n)
			}
			pages[n] = -1
		}
	}
	if of.Held() != len(pages) {
		t.Fatalf("%d pages are held, the things have %d", of.Held(), len(pages))
	}
}

// anyConf is a small layout that may be.
func anyConf(r *rand.Rand) api.Conf {
	c := api.Conf{Size: 8 * (8 + r.Intn(6)), Pages: 1 + r.Intn(14), Step: 8, Slots: 4, Gens: 4}
	for size := 8 * (1 + r.Intn(3)); size <= c.Size && len(c.Classes) < 4; size += 8 * (1 + r.Intn(4)) {
		c.Classes, c.Keep = append(c.Classes, size), append(c.Keep, r.Intn(3))
	}
	c.Most = 1 + r.Intn(c.Size*c.Size/8)
	return c
}

// TestAll is P20.2 to P20.4 of all that few calls may bring about, of few pages.
func TestAll(t *testing.T) {
	const calls, depth = 9, 5
	many := 1
	for range depth {
		many *= calls
	}
	for pages := 2; pages <= 4; pages++ {
		for which := range many {
			b := made(t, few(pages))
			for range depth {
				b.doOne(t, which%calls)
				b.holdEnds(t, "by few calls")
				which /= calls
			}
		}
	}
}

// doOne is one of few calls.
func (b both) doOne(t *testing.T, which int) {
	t.Helper()
	switch which {
	case 0:
		b.place(t, 1, 16)
	case 1:
		b.place(t, 2, 32)
	case 2:
		b.place(t, 3, 33)
	case 3:
		b.place(t, 4, 100)
	case 4:
		b.take(t, 1, 5)
	case 5:
		b.give(t, 1, 0, 0)
	case 6:
		b.drop(t, api.Place{Class: 1, Page: 1})
	case 7:
		b.drop(t, api.Place{Class: -1, Page: 0, Pages: []int{1}})
	case 8:
		b.drop(t, api.Place{Class: -1, Page: 1, Pages: []int{0}})
	}
}

// TestByWords is P20.2 to P20.4: after any calls all is told as the words have it.
func TestByWords(t *testing.T) {
	r := rand.New(rand.NewSource(20))
	for range 300 {
		c := anyConf(r)
		b := made(t, c)
		var told []api.Place
		for range 120 {
			class, n, at := r.Intn(len(c.Classes)+2)-1, r.Intn(c.Pages+2)-1, r.Intn(8)-1
			switch r.Intn(10) {
			case 0, 1:
				told = append(told, b.place(t, r.Intn(9)-1, 1+r.Intn(c.Classes[len(c.Classes)-1])))
			case 2, 3:
				told = append(told, b.place(t, r.Intn(9)-1, r.Intn(min(c.Most, 4*c.Size))+r.Intn(3)))
			case 4:
				n, at := b.take(t, class, r.Intn(9)-1)
				told = append(told, api.Place{Class: class, Page: n, Index: at})
			case 5:
				b.give(t, class, n, at)
			case 6:
				b.own(t, class, n, at, r.Intn(9)-1)
			default:
				if len(told) > 0 {
					b.drop(t, told[r.Intn(len(told))])
				}
			}
			b.holdEnds(t, "by chance")
		}
		b.hold(t, "by chance, at the end")
	}
}
