package move_test

import (
	"bytes"
	"math"
	"math/big"
	"math/rand"
	"testing"

	"almery/api"
	"almery/arena"
	"almery/meter"
	"almery/move"
)

// edges are numbers at which a sum, a difference or a sign may go wrong.
func edges() []int {
	var out []int
	for _, mid := range []int{math.MinInt + 3, -1 << 62, math.MinInt32, 0, 32, 64, math.MaxInt32, 1 << 32, 1 << 62, math.MaxInt - 3} {
		for d := -3; d <= 3; d++ {
			out = append(out, mid+d)
		}
	}
	return out
}

// above tells whether a and b together are above n, of whole numbers.
func above(a, b, n int) bool {
	return new(big.Int).Add(big.NewInt(int64(a)), big.NewInt(int64(b))).Cmp(big.NewInt(int64(n))) > 0
}

// numbered is an arena whose bytes differ from those near them, and none of them is 0; its meter; and these bytes.
func numbered(t *testing.T, pages, size int) (*arena.Arena, *meter.Meter, []byte) {
	t.Helper()
	c := meter.New()
	a, err := arena.New(pages, size, c)
	if err != api.OK {
		t.Fatalf("an arena of %d pages of %d: %v", pages, size, err)
	}
	b := make([]byte, a.Len())
	for i := range b {
		b[i] = byte(i%251 + 1)
	}
	lay(t, a, c, 0, b)
	return a, c, b
}

// lay lays b from at on, without what that costs.
func lay(t *testing.T, a *arena.Arena, c *meter.Meter, at int, b []byte) {
	t.Helper()
	if err := a.Write(at, b); err != api.OK {
		t.Fatalf("%d bytes at %d: %v", len(b), at, err)
	}
	c.Lap()
}

// stands asks that just want stands in all of a, without what that costs.
func stands(t *testing.T, a *arena.Arena, c *meter.Meter, want []byte, what string, of ...any) {
	t.Helper()
	got, err := a.Read(0, a.Len())
	c.Lap()
	if err != api.OK || !bytes.Equal(got, want) {
		t.Fatalf(what+": % x stands, not % x", append(of, got, want)...)
	}
}

// made is a move that may be.
func made(t *testing.T, a *arena.Arena, from, to, size int) *move.Move {
	t.Helper()
	m, err := move.New(a, from, to, size)
	if err != api.OK || m == nil {
		t.Fatalf("New(%d, %d, %d): %v", from, to, size, err)
	}
	return m
}

// model is a move by the document's words alone: it goes through its bytes one by one.
type model struct {
	all            []byte
	from, to, size int
	gone           int
}

func (o *model) step(n int) int {
	went := 0
	for went < n && o.gone < o.size {
		o.all[o.to+o.gone] = o.all[o.from+o.gone]
		o.gone++
		went++
	}
	return went
}

// wrote tells how many bytes are copied once more, too.
func (o *model) wrote(at, n int) (int, api.Errno) {
	if at < 0 || n < 0 || above(at, n, o.size) {
		return 0, api.ErrRange
	}
	again := 0
	for i := at; i < at+n; i++ {
		if i < o.gone {
			o.all[o.to+i] = o.all[o.from+i]
			again++
		}
	}
	return again, api.OK
}

// places are those that a move may have: up and down, side by side, and at both ends of an arena of 64 bytes.
func places() [][2]int {
	return [][2]int{{0, 30}, {30, 0}, {0, 10}, {10, 0}, {0, 54}, {54, 0}, {44, 54}, {54, 44}, {17, 40}, {40, 17}}
}

func TestExample(t *testing.T) {
	a, _, _ := numbered(t, 1, 64)
	m := made(t, a, 0, 30, 10)
	if n := m.Step(4); n != 4 || m.Left() != 6 {
		t.Errorf("Step(4): %d, and %d are left", n, m.Left())
	}
}

// mayNew is P15.1 by the document's words: bytes that both places have in common are looked for one by one.
func mayNew(length, from, to, size int) bool {
	if size < 1 || from < 0 || to < 0 || above(from, size, length) || above(to, size, length) {
		return false
	}
	of := map[int]bool{}
	for i := range size {
		of[from+i] = true
	}
	for i := range size {
		if of[to+i] {
			return false
		}
	}
	return true
}

// checkNew holds one New against the words; either way nothing is charged.
func checkNew(t *testing.T, a *arena.Arena, c *meter.Meter, from, to, size int) {
	t.Helper()
	m, err := move.New(a, from, to, size)
	if mayNew(a.Len(), from, to, size) {
		if err != api.OK || m == nil || m.Left() != size {
			t.Fatalf("New(%d, %d, %d): %v, and %d are left", from, to, size, err, m.Left())
		}
	} else if err != api.ErrArg || m != nil {
		t.Fatalf("New(%d, %d, %d): %v, not ErrArg", from, to, size, err)
	}
	if n := c.Lap(); n != 0 {
		t.Fatalf("New(%d, %d, %d): %d steps", from, to, size, n)
	}
}

// TestNew is P15.1, of all places and sizes in an arena, and about it.
func TestNew(t *testing.T) {
	a, c, b := numbered(t, 1, 64)
	for from := -3; from <= 67; from++ {
		for to := -3; to <= 67; to++ {
			for size := -2; size <= 66; size++ {
				checkNew(t, a, c, from, to, size)
			}
		}
	}
	stands(t, a, c, b, "behind all of New")
}

// TestNewEdges is P15.1 at numbers whose sums go round.
func TestNewEdges(t *testing.T) {
	a, c, b := numbered(t, 1, 64)
	for _, from := range edges() {
		for _, to := range edges() {
			for _, size := range edges() {
				checkNew(t, a, c, from, to, size)
			}
		}
	}
	stands(t, a, c, b, "behind all of New")
}

// TestNewWithout is P15.1 of no arena, and of one that arena.New didn't make: that one has no bytes.
func TestNewWithout(t *testing.T) {
	for _, size := range []int{math.MinInt, -1, 0, 1, 10, math.MaxInt} {
		if m, err := move.New(nil, 0, 10, size); err != api.ErrArg || m != nil {
			t.Errorf("New of nil, %d bytes: %v", size, err)
		}
		if m, err := move.New(&arena.Arena{}, 0, 10, size); err != api.ErrArg || m != nil {
			t.Errorf("New of an arena without bytes, %d bytes: %v", size, err)
		}
	}
}

// TestStep is P15.2: each number of bytes, at each number of those that are gone, at each of the places; just these are laid, and a step is charged for each.
func TestStep(t *testing.T) {
	const size = 10
	numbers := append(edges(), 4, 5, 6, 7, 8, 9, 10, 11, 12)
	for _, p := range places() {
		for first := range size + 1 {
			for _, n := range numbers {
				a, c, b := numbered(t, 1, 64)
				m, o := made(t, a, p[0], p[1], size), &model{all: b, from: p[0], to: p[1], size: size}
				for _, n := range []int{first, n, 0, 1} {
					got, want := m.Step(n), o.step(n)
					if steps := c.Lap(); got != want || steps != want || m.Left() != size-o.gone || c.Lap() != 0 {
						t.Fatalf("%v, Step(%d): %d, not %d, by %d steps, and %d are left", p, n, got, want, steps, m.Left())
					}
					stands(t, a, c, b, "%v, Step(%d)", p, n)
				}
			}
		}
	}
}

// TestStepLate is P15.2: bytes go as they are when they go, and those that are gone go no second time.
func TestStepLate(t *testing.T) {
	a, c, b := numbered(t, 1, 64)
	m := made(t, a, 0, 30, 10)
	m.Step(3)
	copy(b[30:], b[:3])
	late := []byte{201, 202, 203, 204, 205}
	lay(t, a, c, 1, late)
	copy(b[1:], late)
	m.Step(2)
	copy(b[33:], b[3:5])
	stands(t, a, c, b, "written between two steps, and not told")
	m.Step(math.MaxInt)
	copy(b[35:], b[5:10])
	lay(t, a, c, 0, []byte{210, 211})
	copy(b, []byte{210, 211})
	if n := m.Step(math.MaxInt); n != 0 || m.Left() != 0 || c.Lap() != 0 {
		t.Errorf("Step, of nothing that is left: %d, and %d are left", n, m.Left())
	}
	stands(t, a, c, b, "behind the last step")
}

// TestWrote is P15.3: all bytes that may be told, at each number of those that are gone. All bytes of both places differ ahead of it, so that what is copied, and nothing else, is seen.
func TestWrote(t *testing.T) {
	const size = 10
	for _, p := range places() {
		for gone := range size + 1 {
			for at := -2; at <= size+2; at++ {
				for n := -2; n <= size+2; n++ {
					a, c, b := numbered(t, 1, 64)
					m, o := made(t, a, p[0], p[1], size), &model{all: b, from: p[0], to: p[1], size: size}
					m.Step(gone)
					o.step(gone)
					for i := range size {
						b[p[0]+i], b[p[1]+i] = byte(100+i), byte(200+i)
					}
					lay(t, a, c, 0, b)
					got := m.Wrote(at, n)
					again, want := o.wrote(at, n)
					if steps := c.Lap(); got != want || steps != again || m.Left() != size-gone {
						t.Fatalf("%v, %d gone, Wrote(%d, %d): %v, not %v, by %d steps, and %d are left", p, gone, at, n, got, want, steps, m.Left())
					}
					stands(t, a, c, b, "%v, %d gone, Wrote(%d, %d)", p, gone, at, n)
				}
			}
		}
	}
}

// TestWroteEdges is P15.3 at numbers whose sums go round: nothing is changed, or charged.
func TestWroteEdges(t *testing.T) {
	const size = 32
	for gone := range size + 1 {
		a, c, b := numbered(t, 1, 64)
		m, o := made(t, a, 0, 32, size), &model{all: b, to: 32, size: size}
		m.Step(gone)
		o.step(gone)
		c.Lap()
		for _, at := range edges() {
			for _, n := range edges() {
				again, want := o.wrote(at, n)
				if got := m.Wrote(at, n); got != want || c.Lap() != again || m.Left() != size-gone {
					t.Fatalf("%d gone, Wrote(%d, %d): %v, not %v, and %d are left", gone, at, n, got, want, m.Left())
				}
			}
		}
		stands(t, a, c, b, "%d gone, behind all of Wrote", gone)
	}
}

// TestNone is P15.3 of a Move that is nil; and of one that New didn't make, that has no bytes.
func TestNone(t *testing.T) {
	var none *move.Move
	var empty move.Move
	for _, n := range edges() {
		if got := none.Step(n); got != 0 {
			t.Errorf("Step(%d) of nil: %d", n, got)
		}
		if got := empty.Step(n); got != 0 {
			t.Errorf("Step(%d) of no bytes: %d", n, got)
		}
		for _, at := range edges() {
			if err := none.Wrote(at, n); err != api.ErrArg {
				t.Errorf("Wrote(%d, %d) of nil: %v", at, n, err)
			}
			want := api.ErrRange
			if at == 0 && n == 0 {
				want = api.OK
			}
			if err := empty.Wrote(at, n); err != want {
				t.Errorf("Wrote(%d, %d) of no bytes: %v", at, n, err)
			}
		}
	}
	if none.Left() != 0 || empty.Left() != 0 {
		t.Errorf("Left: %d of nil, %d of no bytes", none.Left(), empty.Left())
	}
}

// someMove is a move by chance, that may be, in so many bytes.
func someMove(r *rand.Rand, length int) (int, int, int) {
	for {
		size := 1 + r.Intn(length/2)
		from, to := r.Intn(length-size+1), r.Intn(length-size+1)
		if mayNew(length, from, to, size) {
			return from, to, size
		}
	}
}

// TestTurns is P15.4: steps, and writes that are told, by chance; what is gone stands at both places alike behind each, all else is as it was, and steps charge as many as bytes went.
func TestTurns(t *testing.T) {
	r := rand.New(rand.NewSource(154))
	for range 400 {
		a, c, b := numbered(t, 1+r.Intn(3), 64)
		from, to, size := someMove(r, len(b))
		m, o := made(t, a, from, to, size), &model{all: b, from: from, to: to, size: size}
		charged := 0
		for m.Left() > 0 || r.Intn(4) > 0 {
			if r.Intn(2) == 0 {
				n := r.Intn(3+size/3) - 1
				if got, want := m.Step(n), o.step(n); got != want {
					t.Fatalf("Step(%d): %d, not %d", n, got, want)
				}
				charged += c.Lap()
			} else {
				at := r.Intn(size + 1)
				fresh := make([]byte, r.Intn(size-at+1))
				r.Read(fresh)
				lay(t, a, c, from+at, fresh)
				copy(b[from+at:], fresh)
				again, _ := o.wrote(at, len(fresh))
				if err := m.Wrote(at, len(fresh)); err != api.OK || c.Lap() != again {
					t.Fatalf("Wrote(%d, %d): %v", at, len(fresh), err)
				}
			}
			gone := size - m.Left()
			if gone != o.gone || charged != gone || !bytes.Equal(b[from:from+gone], b[to:to+gone]) {
				t.Fatalf("from %d to %d, %d are gone, not %d, by %d steps", from, to, gone, o.gone, charged)
			}
			stands(t, a, c, b, "from %d to %d, %d of %d gone", from, to, gone, size)
		}
	}
}

// TestApart is P15.4 of two moves in one arena, that take turns: neither knows of the other one.
func TestApart(t *testing.T) {
	a, c, b := numbered(t, 1, 64)
	one, other := made(t, a, 0, 20, 10), made(t, a, 50, 36, 12)
	wantOne, wantOther := &model{all: b, to: 20, size: 10}, &model{all: b, from: 50, to: 36, size: 12}
	for n := range 8 {
		if one.Step(n) != wantOne.step(n) || one.Wrote(1, 5) != api.OK || other.Step(3) != wantOther.step(3) || other.Wrote(0, 12) != api.OK {
			t.Fatalf("turn %d: %d and %d are left", n, one.Left(), other.Left())
		}
		if one.Left() != 10-wantOne.gone || other.Left() != 12-wantOther.gone {
			t.Fatalf("turn %d: %d and %d are left", n, one.Left(), other.Left())
		}
		stands(t, a, c, b, "turn %d", n)
	}
}

// TestGreat is of the greatest arena: half of it moves to the other half, by steps as great as a tick may have.
func TestGreat(t *testing.T) {
	a, c, b := numbered(t, api.MaxPages, api.MaxSize)
	half := len(b) / 2
	m := made(t, a, half, 0, half)
	for left := half; left > 0; left -= api.MaxStep {
		if m.Left() != left || m.Step(api.MaxStep) != api.MaxStep || c.Lap() != api.MaxStep {
			t.Fatalf("%d are left, not %d", m.Left(), left)
		}
	}
	copy(b, b[half:])
	lay(t, a, c, len(b)-3, []byte("end"))
	copy(b[len(b)-3:], "end")
	copy(b[half-3:], "end")
	if err := m.Wrote(0, half); err != api.OK || m.Left() != 0 || c.Lap() != half {
		t.Fatalf("Wrote of all: %v, and %d are left", err, m.Left())
	}
	got, _ := a.Read(0, a.Len())
	if !bytes.Equal(got, b) {
		t.Error("both halves don't stand alike")
	}
}

// TestUncounted is of an arena that charges nobody: bytes move all the same.
func TestUncounted(t *testing.T) {
	a, _ := arena.New(1, 64, nil)
	a.Write(5, []byte("abc"))
	m := made(t, a, 5, 60, 3)
	if n := m.Step(9); n != 3 || m.Left() != 0 {
		t.Errorf("Step(9): %d, and %d are left", n, m.Left())
	}
	if b, _ := a.Read(60, 3); string(b) != "abc" {
		t.Errorf("%q stands there", b)
	}
}
