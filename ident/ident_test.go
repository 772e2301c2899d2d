package ident_test

import (
	"math"
	"math/rand"
	"testing"

	"almery/api"
	"almery/ident"
)

// The document's limits, by its numbers.
const (
	slots = 4096
	gens  = 1023
)

// some are numbers about each edge of a slot, a generation and a handle, and those at which a product, a sum or a cut may go round.
func some() []int {
	var out []int
	for _, mid := range []int{0, 1023, 4096, 8192, 1023 * 4096, 1024 * 4096, 1 << 31, 1 << 32, 1 << 50, 1 << 51, 1 << 52, 1 << 62} {
		for d := -2; d <= 2; d++ {
			out = append(out, mid+d, -mid+d)
		}
	}
	for d := range 3 {
		out = append(out, math.MinInt+d, math.MaxInt-d, math.MinInt+4096*(d+1), math.MaxInt-4096*(d+1))
	}
	return out
}

// holdJoin fails, unless Join of both is told as P9.1's words have it.
func holdJoin(t *testing.T, slot, gen int) {
	t.Helper()
	want, wantErr := 0, api.ErrArg
	if 0 <= slot && slot < slots && 1 <= gen && gen <= gens {
		want, wantErr = gen*slots+slot, api.OK
	}
	if h, err := ident.Join(slot, gen); h != want || err != wantErr {
		t.Errorf("Join(%d, %d): %d, %v, not %d, %v", slot, gen, h, err, want, wantErr)
	}
}

// holdNone fails, unless h is told to be no handle.
func holdNone(t *testing.T, h int) {
	t.Helper()
	if slot, gen, err := ident.Split(h); slot != 0 || gen != 0 || err != api.ErrForged {
		t.Errorf("Split(%d), of no handle: %d, %d, %v", h, slot, gen, err)
	}
}

func TestExample(t *testing.T) {
	if h, err := ident.Join(2, 1); h != 4098 || err != api.OK {
		t.Errorf("Join: %d, %v, not 4098", h, err)
	}
	if slot, gen, err := ident.Split(4098); slot != 2 || gen != 1 || err != api.OK {
		t.Errorf("Split: %d, %d, %v, not 2, 1", slot, gen, err)
	}
}

// TestEdges is P9.1 at the ends of slots and generations, by numbers that are written out.
func TestEdges(t *testing.T) {
	for _, c := range []struct {
		slot, gen, h int
		err          api.Errno
	}{
		{0, 1, 4096, api.OK},
		{1, 1, 4097, api.OK},
		{4095, 1, 8191, api.OK},
		{0, 2, 8192, api.OK},
		{1023, 2, 9215, api.OK},
		{0, 1023, 4190208, api.OK},
		{4095, 1022, 4190207, api.OK},
		{4095, 1023, 4194303, api.OK},
		{-1, 1, 0, api.ErrArg},
		{4096, 1, 0, api.ErrArg},
		{0, 0, 0, api.ErrArg},
		{4095, 0, 0, api.ErrArg},
		{0, 1024, 0, api.ErrArg},
		{4095, 1024, 0, api.ErrArg},
		{0, -1, 0, api.ErrArg},
		{-1, 0, 0, api.ErrArg},
		{-1, 2, 0, api.ErrArg},
		{8192, 1, 0, api.ErrArg},
		{4096, 1024, 0, api.ErrArg},
		{-1, 1024, 0, api.ErrArg},
		{math.MinInt, 1, 0, api.ErrArg},
		{0, math.MinInt, 0, api.ErrArg},
		{math.MaxInt, math.MaxInt, 0, api.ErrArg},
		// Of these a product goes round to one that would be a handle.
		{0, 1<<52 + 1, 0, api.ErrArg},
		{0, math.MinInt + 1, 0, api.ErrArg},
	} {
		if h, err := ident.Join(c.slot, c.gen); h != c.h || err != c.err {
			t.Errorf("Join(%d, %d): %d, %v, not %d, %v", c.slot, c.gen, h, err, c.h, c.err)
		}
	}
	for _, h := range []int{0, 1, 2, 4095, -1, -2, -4095, -4096, -4097, -4098, 4194304, 4194305, 1 << 32, 1<<32 + 4096, 1 << 62, 1<<62 + 4096, math.MaxInt, math.MinInt, math.MinInt + 4096, math.MinInt + 4098} {
		holdNone(t, h)
	}
}

// TestJoin is P9.1 of wrong slots and generations, both at once too.
func TestJoin(t *testing.T) {
	for _, slot := range some() {
		for _, gen := range some() {
			holdJoin(t, slot, gen)
		}
	}
}

// TestThereAndBack is P9.1 and P9.2 of all slots and generations: each is told back of its handle, and no handle is told twice.
func TestThereAndBack(t *testing.T) {
	told := map[int]bool{}
	for gen := 1; gen <= gens; gen++ {
		clear(told)
		for slot := range slots {
			h, err := ident.Join(slot, gen)
			if h != gen*slots+slot || err != api.OK {
				t.Fatalf("Join(%d, %d): %d, %v", slot, gen, h, err)
			}
			// The handles of a generation are all from gen*slots on, and below those of the next one: so only its own may be the same.
			if h < gen*slots || h >= (gen+1)*slots || told[h] {
				t.Fatalf("Join(%d, %d): %d, that is another one's", slot, gen, h)
			}
			told[h] = true
			if s, g, err := ident.Split(h); s != slot || g != gen || err != api.OK {
				t.Fatalf("Split(%d): %d, %d, %v, not %d, %d", h, s, g, err, slot, gen)
			}
		}
	}
}

// TestNoHandle is P9.1 of numbers of which no Join tells: all of them beside the handles, and some that are far off.
func TestNoHandle(t *testing.T) {
	for h := -3 * slots; h < slots; h++ {
		holdNone(t, h)
	}
	for h := (gens + 1) * slots; h < (gens+4)*slots; h++ {
		holdNone(t, h)
	}
	numbers := some()
	r := rand.New(rand.NewSource(9))
	for range 100000 {
		// Shifted, so that numbers of all lengths come.
		numbers = append(numbers, int(r.Uint64())>>r.Intn(64))
	}
	for _, h := range numbers {
		if h >= slots && h < (gens+1)*slots {
			continue
		}
		holdNone(t, h)
	}
}

// TestBackAndThere is P9.2 from the other side: whatever number is split, Join tells it again, or it is forged.
func TestBackAndThere(t *testing.T) {
	for h := -slots; h < (gens+2)*slots; h++ {
		slot, gen, err := ident.Split(h)
		if err != api.OK {
			if h >= slots && h < (gens+1)*slots {
				t.Fatalf("Split(%d): %v", h, err)
			}
			continue
		}
		if back, err := ident.Join(slot, gen); back != h || err != api.OK {
			t.Fatalf("Split(%d): %d, %d, of which Join tells %d, %v", h, slot, gen, back, err)
		}
	}
}
