package proxy_test

import (
	"math"
	"math/rand"
	"slices"
	"testing"

	"almery/api"
	"almery/proxy"
)

// model is a table by the document's words alone: each slot's generation, whether it is live, whether it was ever taken, and the free slots that were given back, the last one last.
type model struct {
	slots, gens int
	gen         []int
	live        []bool
	taken       []bool
	given       []int
}

func modelOf(slots, gens int) *model {
	return &model{slots: slots, gens: gens, gen: slices.Repeat([]int{1}, slots), live: make([]bool, slots), taken: make([]bool, slots)}
}

func (o *model) take() (int, int, api.Errno) {
	slot := slices.Index(o.taken, false)
	if last := len(o.given) - 1; last >= 0 {
		slot, o.given = o.given[last], o.given[:last]
	}
	if slot < 0 {
		return 0, 0, api.ErrHandles
	}
	o.live[slot], o.taken[slot] = true, true
	return 4096*o.gen[slot] + slot, slot, api.OK
}

func (o *model) look(h int) (int, api.Errno) {
	if h < 4096 || h >= 1024*4096 {
		return 0, api.ErrForged
	}
	slot, gen := h%4096, h/4096
	switch {
	case slot >= o.slots, o.gen[slot] < gen, o.gen[slot] == gen && !o.live[slot]:
		return 0, api.ErrForged
	case o.gen[slot] > gen:
		return 0, api.ErrStale
	}
	return slot, api.OK
}

func (o *model) give(h int) api.Errno {
	slot, err := o.look(h)
	if err != api.OK {
		return err
	}
	o.live[slot] = false
	o.gen[slot]++
	if o.gen[slot] <= o.gens {
		o.given = append(o.given, slot)
	}
	return api.OK
}

// counts are how many slots are free, and how many live, counted anew each time.
func (o *model) counts() (int, int) {
	free, live := 0, 0
	for slot := range o.slots {
		if o.live[slot] {
			live++
		} else if o.gen[slot] <= o.gens {
			free++
		}
	}
	return free, live
}

// wrong are numbers that are no handle, however many slots and generations there are.
var wrong = []int{math.MinInt, math.MinInt + 1, -1 << 32, -8192, -4097, -4096, -4095, -1, 0, 1, 4095, 1024 * 4096, 1024*4096 + 1, 1025*4096 - 1, 1 << 31, 1 << 32, 1<<32 + 4096, 1 << 62, math.MaxInt - 1, math.MaxInt}

// handles are those of all slots and generations of the model, and of the slot and the generations behind.
func handles(o *model) []int {
	var all []int
	for gen := 1; gen <= min(o.gens+2, 1023); gen++ {
		for slot := range min(o.slots+1, 4096) {
			all = append(all, gen*4096+slot)
		}
	}
	return all
}

// hold fails, unless all that p tells is what the model tells.
func hold(t *testing.T, what string, p *proxy.Table, o *model) {
	t.Helper()
	for _, h := range append(handles(o), wrong...) {
		got, err := p.Look(h)
		if want, wantErr := o.look(h); got != want || err != wantErr {
			t.Fatalf("%s: Look(%d): %d, %v, not %d, %v", what, h, got, err, want, wantErr)
		}
	}
	count(t, what, p, o)
}

// count holds the numbers alone, where there are too many handles to look at all of them.
func count(t *testing.T, what string, p *proxy.Table, o *model) {
	t.Helper()
	if free, live := o.counts(); p.Left() != free || p.Live() != live {
		t.Fatalf("%s: Left %d, Live %d, not %d, %d", what, p.Left(), p.Live(), free, live)
	}
}

func made(t *testing.T, slots, gens int) (*proxy.Table, *model) {
	t.Helper()
	p, err := proxy.New(slots, gens)
	if err != api.OK || p == nil {
		t.Fatalf("New(%d, %d): %v", slots, gens, err)
	}
	return p, modelOf(slots, gens)
}

// take and give do the call to both, and hold one against the other.
func take(t *testing.T, p *proxy.Table, o *model) (int, api.Errno) {
	t.Helper()
	h, slot, err := p.Take()
	wantH, wantSlot, wantErr := o.take()
	if h != wantH || slot != wantSlot || err != wantErr {
		t.Fatalf("Take: %d, %d, %v, not %d, %d, %v", h, slot, err, wantH, wantSlot, wantErr)
	}
	return h, err
}

func give(t *testing.T, p *proxy.Table, o *model, h int) api.Errno {
	t.Helper()
	got, want := p.Give(h), o.give(h)
	if got != want {
		t.Fatalf("Give(%d): %v, not %v", h, got, want)
	}
	return got
}

// takeAll takes slot after slot, and once more than there are free ones.
func takeAll(t *testing.T, p *proxy.Table, o *model) []int {
	t.Helper()
	var all []int
	free, _ := o.counts()
	for range free {
		h, _ := take(t, p, o)
		all = append(all, h)
	}
	if _, err := take(t, p, o); err != api.ErrHandles {
		t.Fatalf("none is left: %v", err)
	}
	count(t, "all taken", p, o)
	return all
}

func TestExample(t *testing.T) {
	p, _ := made(t, 1, 2)
	for _, want := range []int{4096, 8192} {
		if h, slot, err := p.Take(); h != want || slot != 0 || err != api.OK {
			t.Fatalf("%d, %d, %v, not %d", h, slot, err, want)
		}
		if err := p.Give(want); err != api.OK {
			t.Fatalf("Give(%d): %v", want, err)
		}
	}
	if h, slot, err := p.Take(); h != 0 || slot != 0 || err != api.ErrHandles {
		t.Errorf("%d, %d, %v, not ErrHandles", h, slot, err)
	}
}

// TestNew is P10.1: what may be, and what may not; all slots free, of the generation 1.
func TestNew(t *testing.T) {
	slots := []int{math.MinInt, -4096, -1, 0, 1, 2, 1023, 1024, 4095, 4096, 4097, 1 << 32, 1<<32 + 1, math.MaxInt}
	gens := []int{math.MinInt, -1023, -1, 0, 1, 2, 1022, 1023, 1024, 4096, 1 << 32, 1<<32 + 1, math.MaxInt}
	for _, many := range slots {
		for _, often := range gens {
			p, err := proxy.New(many, often)
			if many < 1 || many > 4096 || often < 1 || often > 1023 {
				if p != nil || err != api.ErrArg {
					t.Errorf("New(%d, %d): %v, not ErrArg", many, often, err)
				}
				continue
			}
			if p == nil || err != api.OK {
				t.Errorf("New(%d, %d): %v, not OK", many, often, err)
				continue
			}
			o := modelOf(many, often)
			count(t, "new", p, o)
			give(t, p, o, 4096)
			give(t, p, o, 4096+many-1)
			give(t, p, o, 4096+many)
			count(t, "free ones given back", p, o)
			for at, h := range takeAll(t, p, o) {
				if h != 4096+at {
					t.Fatalf("New(%d, %d): the handle %d is told, not %d", many, often, h, 4096+at)
				}
			}
		}
	}
}

// TestOwn is R4: two tables have nothing in common.
func TestOwn(t *testing.T) {
	a, of := made(t, 3, 2)
	b, other := made(t, 3, 2)
	take(t, a, of)
	h, _ := take(t, a, of)
	hold(t, "the other one", b, other)
	give(t, a, of, h)
	take(t, b, other)
	hold(t, "the one", a, of)
	takeAll(t, b, other)
	takeAll(t, a, of)
}

// TestErrors is P10.3: which error of which handle, and that nothing is changed by one.
func TestErrors(t *testing.T) {
	p, o := made(t, 4, 3)
	refuse := func(what string) {
		t.Helper()
		for _, h := range append(handles(o), wrong...) {
			if _, err := o.look(h); err != api.OK {
				give(t, p, o, h)
			}
		}
		hold(t, what, p, o)
	}
	refuse("all free")
	for range 3 {
		take(t, p, o)
	}
	refuse("one free")
	give(t, p, o, 4097)
	give(t, p, o, 4096)
	refuse("two given back")
	for range 3 {
		take(t, p, o)
	}
	refuse("none free")
	for range 3 {
		take(t, p, o)
	}
	refuse("none free, and asked for")
	give(t, p, o, 8192)
	take(t, p, o)
	give(t, p, o, 3*4096)
	refuse("one spent")
	takeAll(t, p, o)
	refuse("one spent, all others taken")
}

// TestKinds is P10.3 of one slot, told by hand: forged until it is taken, then looked up, then stale, and forged again of the generation that nobody took.
func TestKinds(t *testing.T) {
	p, _ := made(t, 1, 2)
	want := func(what string, one, two, three api.Errno) {
		t.Helper()
		for gen, err := range []api.Errno{one, two, three} {
			if slot, got := p.Look((gen + 1) * 4096); slot != 0 || got != err {
				t.Errorf("%s: generation %d: %d, %v, not %v", what, gen+1, slot, got, err)
			}
		}
	}
	want("new", api.ErrForged, api.ErrForged, api.ErrForged)
	p.Take()
	want("taken", api.OK, api.ErrForged, api.ErrForged)
	p.Give(4096)
	want("given back", api.ErrStale, api.ErrForged, api.ErrForged)
	p.Take()
	want("taken again", api.ErrStale, api.OK, api.ErrForged)
	p.Give(8192)
	want("spent", api.ErrStale, api.ErrStale, api.ErrForged)
	if p.Left() != 0 || p.Live() != 0 {
		t.Errorf("spent: Left %d, Live %d", p.Left(), p.Live())
	}
	for h, err := range map[int]api.Errno{4096: api.ErrStale, 8192: api.ErrStale, 3 * 4096: api.ErrForged, 4097: api.ErrForged} {
		if got := p.Give(h); got != err {
			t.Errorf("Give(%d) of a spent slot: %v, not %v", h, got, err)
		}
	}
}

// turns are all orders of the numbers below n.
func turns(n int) [][]int {
	all := [][]int{{}}
	for next := range n {
		var longer [][]int
		for _, turn := range all {
			for at := range len(turn) + 1 {
				longer = append(longer, slices.Insert(slices.Clone(turn), at, next))
			}
		}
		all = longer
	}
	return all
}

// TestTurns is P10.2: whatever the turn in which slots are given back, the last one is taken first, and those that were never taken come behind all of them, the least one first.
func TestTurns(t *testing.T) {
	for _, turn := range turns(5) {
		for many := range len(turn) + 1 {
			p, o := made(t, 7, 3)
			for range 5 {
				take(t, p, o)
			}
			for _, slot := range turn[:many] {
				give(t, p, o, 4096+slot)
			}
			hold(t, "given back", p, o)
			takeAll(t, p, o)
			for _, slot := range turn {
				give(t, p, o, 4096*o.gen[slot]+slot)
			}
			takeAll(t, p, o)
		}
	}
}

// TestSpent is P10.3: a slot that had all its generations is never taken again, and leaves the turn of the others as it is.
func TestSpent(t *testing.T) {
	for _, turn := range turns(4) {
		p, o := made(t, 6, 2)
		for range 4 {
			take(t, p, o)
		}
		give(t, p, o, 4096+turn[0])
		take(t, p, o)
		give(t, p, o, 4096+turn[1])
		give(t, p, o, 8192+turn[0])
		give(t, p, o, 4096+turn[2])
		give(t, p, o, 4096+turn[3])
		hold(t, "one is spent", p, o)
		for _, h := range takeAll(t, p, o) {
			if h%4096 == turn[0] {
				t.Errorf("the spent slot %d is told by %d", turn[0], h)
			}
		}
		hold(t, "one is spent, the others taken", p, o)
	}
}

// TestNil is P10.4 of a table that is nil: of no handle another error.
func TestNil(t *testing.T) {
	var p *proxy.Table
	if h, slot, err := p.Take(); h != 0 || slot != 0 || err != api.ErrArg {
		t.Errorf("Take: %d, %d, %v", h, slot, err)
	}
	for _, h := range append([]int{4096, 4097, 8192, 1023*4096 + 4095}, wrong...) {
		if slot, err := p.Look(h); slot != 0 || err != api.ErrArg {
			t.Errorf("Look(%d): %d, %v", h, slot, err)
		}
		if err := p.Give(h); err != api.ErrArg {
			t.Errorf("Give(%d): %v", h, err)
		}
	}
	if p.Left() != 0 || p.Live() != 0 {
		t.Errorf("Left %d, Live %d", p.Left(), p.Live())
	}
}

// TestUnmade is P1 of a table that New didn't make: it has no slots, and nothing panics.
func TestUnmade(t *testing.T) {
	p, o := new(proxy.Table), modelOf(0, 0)
	hold(t, "unmade", p, o)
	take(t, p, o)
	give(t, p, o, 4096)
	give(t, p, o, 0)
	hold(t, "unmade, and asked", p, o)
}

// history is which handles were told, and which of them given back.
type history struct{ told, back map[int]bool }

// hold is P10.5: what was told is looked up until it is given back, and stale ever after.
func (y history) hold(t *testing.T, p *proxy.Table) {
	t.Helper()
	for h := range y.told {
		slot, err := p.Look(h)
		if y.back[h] && (slot != 0 || err != api.ErrStale) || !y.back[h] && (slot != h%4096 || err != api.OK) {
			t.Fatalf("Look(%d), given back %v: %d, %v", h, y.back[h], slot, err)
		}
	}
}

// TestByWords is P10.2 to P10.5: after any calls all is told as the words have it, and no handle is told twice.
func TestByWords(t *testing.T) {
	r := rand.New(rand.NewSource(10))
	for range 300 {
		slots, gens, takes := 1+r.Intn(8), 1+r.Intn(5), 1+r.Intn(5)
		p, o := made(t, slots, gens)
		y := history{map[int]bool{}, map[int]bool{}}
		for range 120 {
			if r.Intn(6) < takes {
				if h, err := take(t, p, o); err == api.OK {
					if y.told[h] {
						t.Fatalf("%d is told twice", h)
					}
					y.told[h] = true
				}
			} else {
				h := 4096*r.Intn(gens+3) + r.Intn(slots+1)
				if give(t, p, o, h) == api.OK {
					y.back[h] = true
				}
			}
			hold(t, "by chance", p, o)
			y.hold(t, p)
		}
		takeAll(t, p, o)
	}
}

// TestMost is P10.2 to P10.5 of as many slots and generations as there may be: each handle that there may be is told once, and then no other one.
func TestMost(t *testing.T) {
	p, _ := made(t, 4096, 1023)
	told := make([]bool, 1024*4096)
	for gen := 1; gen <= 1023; gen++ {
		if p.Left() != 4096 || p.Live() != 0 {
			t.Fatalf("generation %d: Left %d, Live %d", gen, p.Left(), p.Live())
		}
		all := make([]int, 4096)
		for at := range all {
			h, slot, err := p.Take()
			if err != api.OK || h != 4096*gen+slot || told[h] {
				t.Fatalf("generation %d: %d, %d, %v", gen, h, slot, err)
			}
			all[at], told[h] = h, true
		}
		if _, _, err := p.Take(); err != api.ErrHandles || p.Left() != 0 || p.Live() != 4096 {
			t.Fatalf("generation %d, all taken: %v", gen, err)
		}
		for n := range all {
			h := all[(n*5+gen)%4096]
			if err := p.Give(h); err != api.OK {
				t.Fatalf("Give(%d): %v", h, err)
			}
			if _, err := p.Look(h); err != api.ErrStale {
				t.Fatalf("Look(%d): %v", h, err)
			}
		}
	}
	if _, _, err := p.Take(); err != api.ErrHandles || p.Left() != 0 || p.Live() != 0 {
		t.Errorf("all spent: %v", err)
	}
	for h := range told {
		want := api.ErrStale
		if h < 4096 {
			want = api.ErrForged
		}
		if _, err := p.Look(h); err != want {
			t.Fatalf("all spent: Look(%d): %v, not %v", h, err, want)
		}
	}
}
