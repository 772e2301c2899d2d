package arena_test

import (
	"bytes"
	"encoding/binary"
	"math"
	"math/big"
	"math/rand"
	"testing"

	"almery/api"
	"almery/arena"
	"almery/meter"
)

// made is an arena that may be, and its meter.
func made(t *testing.T, pages, size int) (*arena.Arena, *meter.Meter) {
	t.Helper()
	m := meter.New()
	a, err := arena.New(pages, size, m)
	if err != api.OK || a == nil {
		t.Fatalf("New(%d, %d): %v", pages, size, err)
	}
	return a, m
}

// all is what stands in a, without what that costs.
func all(t *testing.T, a *arena.Arena, m *meter.Meter) []byte {
	t.Helper()
	b, err := a.Read(0, a.Len())
	if err != api.OK || len(b) != a.Len() {
		t.Fatalf("all of it: %d bytes, %v", len(b), err)
	}
	m.Lap()
	return b
}

// numbered is an arena whose bytes differ from those near them, and none of them is 0.
func numbered(t *testing.T, pages, size int) (*arena.Arena, *meter.Meter, []byte) {
	t.Helper()
	a, m := made(t, pages, size)
	b := make([]byte, a.Len())
	for i := range b {
		b[i] = byte(i%251 + 1)
	}
	if err := a.Write(0, b); err != api.OK {
		t.Fatalf("Write: %v", err)
	}
	m.Lap()
	return a, m, b
}

// there is the document's word, of whole numbers.
func there(at, n, length int) bool {
	sum := new(big.Int).Add(big.NewInt(int64(at)), big.NewInt(int64(n)))
	return at >= 0 && n >= 0 && sum.Cmp(big.NewInt(int64(length))) <= 0
}

func TestExample(t *testing.T) {
	a, _ := made(t, 1, 64)
	if err := a.Write(8, []byte{1}); err != api.OK {
		t.Fatalf("Write: %v", err)
	}
	if w, err := a.Load(8); w != 1 || err != api.OK {
		t.Errorf("Load(8): %d, %v", w, err)
	}
}

// TestNew is P6.1: what may be, and what may not; so many bytes, all 0; making them costs nothing.
func TestNew(t *testing.T) {
	numbers := []int{math.MinInt, -4096, -64, -8, -1, 0, 1, 2, 8, 56, 60, 63, 64, 65, 68, 72, 127, 128, 1000, 1023, 1024, 1025, 2048, 4088, 4095, 4096, 4097, 4104, 8192, 1 << 32, 1 << 61, 1 << 62, math.MaxInt - 7, math.MaxInt}
	for _, pages := range numbers {
		for _, size := range numbers {
			m := meter.New()
			a, err := arena.New(pages, size, m)
			may := pages >= 1 && pages <= 1024 && size >= 64 && size <= 4096 && size%8 == 0
			if !may {
				if a != nil || err != api.ErrArg {
					t.Errorf("New(%d, %d): %v, not ErrArg", pages, size, err)
				}
				continue
			}
			if a == nil || err != api.OK {
				t.Errorf("New(%d, %d): %v, not OK", pages, size, err)
				continue
			}
			if a.Len() != pages*size || m.Total() != 0 {
				t.Errorf("New(%d, %d): %d bytes, %d steps", pages, size, a.Len(), m.Total())
			}
			if b, err := a.Read(0, pages*size); err != api.OK || !bytes.Equal(b, make([]byte, pages*size)) {
				t.Errorf("New(%d, %d): not all 0, %v", pages, size, err)
			}
			if m.Total() != pages*size {
				t.Errorf("New(%d, %d): reading all of it is charged %d", pages, size, m.Total())
			}
		}
	}
}

// TestOwn is P6.1: each arena has bytes of its own, and is charged to the meter that it was given, and to no other one.
func TestOwn(t *testing.T) {
	a, of := made(t, 1, 64)
	b, other := made(t, 1, 64)
	a.Fill(0, 64, 7)
	if got, _ := b.Read(0, 64); !bytes.Equal(got, make([]byte, 64)) {
		t.Errorf("what was laid in one stands in another one: %v", got)
	}
	if of.Total() != 64 || other.Total() != 64 {
		t.Errorf("charged %d and %d", of.Total(), other.Total())
	}
	a.Store(0, 1)
	if of.Total() != 65 || other.Total() != 64 {
		t.Errorf("charged %d and %d, after a word", of.Total(), other.Total())
	}
	c, err := arena.New(1, 64, other)
	if err != api.OK {
		t.Fatal(err)
	}
	c.Load(0)
	b.Load(0)
	if other.Total() != 66 {
		t.Errorf("two with one meter: %d", other.Total())
	}
}

// TestNilMeter is P6.1 with a meter that counts nothing: all else is done as ever.
func TestNilMeter(t *testing.T) {
	a, err := arena.New(1, 64, nil)
	if err != api.OK {
		t.Fatal(err)
	}
	if a.Write(1, []byte("ab")) != api.OK || a.Fill(3, 2, 'c') != api.OK || a.Copy(8, 1, 4) != api.OK || a.Store(16, 5) != api.OK {
		t.Error("not laid")
	}
	if w, err := a.Load(16); w != 5 || err != api.OK {
		t.Errorf("Load: %d, %v", w, err)
	}
	if b, err := a.Read(7, 6); string(b) != "\x00abcc\x00" || err != api.OK {
		t.Errorf("Read: %q, %v", b, err)
	}
}

// places are the edges of an arena of 128 bytes, and numbers that go round with others.
var places = []int{math.MinInt, math.MinInt + 1, -1 << 62, -129, -128, -8, -1, 0, 1, 7, 8, 9, 63, 64, 65, 120, 121, 126, 127, 128, 129, 136, 1 << 31, 1 << 32, 1 << 62, math.MaxInt - 128, math.MaxInt - 7, math.MaxInt - 1, math.MaxInt}

// TestRange is P6.2 at all edges: done and charged, where the bytes are there, else ErrRange, nothing changed and nothing charged.
func TestRange(t *testing.T) {
	for _, at := range places {
		for _, n := range places {
			a, m, before := numbered(t, 2, 64)
			want, steps := api.ErrRange, 0
			if there(at, n, 128) {
				want, steps = api.OK, n
			}
			b, err := a.Read(at, n)
			if err != want || m.Lap() != steps || err != api.OK && b != nil || len(b) != steps || err == api.OK && !bytes.Equal(b, before[at:at+n]) {
				t.Errorf("Read(%d, %d): %v, %v", at, n, b, err)
			}
			for _, c := range []byte{0, 255} {
				after := bytes.Clone(before)
				for i := range steps {
					after[at+i] = c
				}
				if err := a.Fill(at, n, c); err != want || m.Lap() != steps {
					t.Errorf("Fill(%d, %d, %d): %v", at, n, c, err)
				}
				if got := all(t, a, m); !bytes.Equal(got, after) {
					t.Errorf("Fill(%d, %d, %d): %v", at, n, c, got)
				}
				a.Write(0, before)
				m.Lap()
			}
		}
	}
}

// TestWrite is P6.2's Write, at all edges and at all lengths from none to one more than there are.
func TestWrite(t *testing.T) {
	for _, at := range places {
		for n := range 130 {
			a, m, before := numbered(t, 2, 64)
			b := bytes.Repeat([]byte{255}, n)
			for i := range b {
				b[i] -= byte(i % 3)
			}
			handed := bytes.Clone(b)
			want, steps, after := api.ErrRange, 0, bytes.Clone(before)
			if there(at, n, 128) {
				want, steps = api.OK, n
				copy(after[at:], b)
			}
			if err := a.Write(at, b); err != want || m.Lap() != steps {
				t.Errorf("Write(%d, %d bytes): %v", at, n, err)
			}
			if got := all(t, a, m); !bytes.Equal(got, after) {
				t.Errorf("Write(%d, %d bytes): %v", at, n, got)
			}
			if !bytes.Equal(b, handed) {
				t.Errorf("Write(%d, %d bytes): what was handed in is %v", at, n, b)
			}
		}
		a, m := made(t, 2, 64)
		want := api.ErrRange
		if at >= 0 && at <= 128 {
			want = api.OK
		}
		if err := a.Write(at, nil); err != want || m.Total() != 0 {
			t.Errorf("Write(%d, nil): %v, %d steps", at, err, m.Total())
		}
	}
}

// TestCopy is P6.2's Copy: both parts must be there, they may overlap, and each byte is charged once.
func TestCopy(t *testing.T) {
	a, m, before := numbered(t, 2, 64)
	for _, to := range places {
		for _, from := range places {
			for _, n := range places {
				want, steps, after := api.ErrRange, 0, bytes.Clone(before)
				if there(to, n, 128) && there(from, n, 128) {
					want, steps = api.OK, n
					copy(after[to:to+n], bytes.Clone(before[from:from+n]))
				}
				if err := a.Copy(to, from, n); err != want || m.Lap() != steps {
					t.Fatalf("Copy(%d, %d, %d): %v", to, from, n, err)
				}
				if got := all(t, a, m); !bytes.Equal(got, after) {
					t.Fatalf("Copy(%d, %d, %d): %v", to, from, n, got)
				}
				a.Write(0, before)
				m.Lap()
			}
		}
	}
	for to := range 24 {
		for from := range 24 {
			for n := range 24 {
				after := bytes.Clone(before)
				copy(after[to:], before[from:from+n])
				if err := a.Copy(to, from, n); err != api.OK || m.Lap() != n {
					t.Fatalf("Copy(%d, %d, %d): %v", to, from, n, err)
				}
				if got := all(t, a, m); !bytes.Equal(got, after) {
					t.Fatalf("Copy(%d, %d, %d): %v", to, from, n, got)
				}
				a.Write(0, before)
				m.Lap()
			}
		}
	}
}

// TestWords is P6.3: the least byte first, one step each, and ErrRange ahead of ErrArg.
func TestWords(t *testing.T) {
	words := []uint64{0, 1, 255, 256, 1 << 31, 1 << 32, 1 << 63, math.MaxUint64, 0x0102030405060708, 0xf1e2d3c4b5a69788}
	at := append([]int{}, places...)
	for i := range 140 {
		at = append(at, i)
	}
	for _, at := range at {
		for _, w := range words {
			a, m, before := numbered(t, 2, 64)
			want, steps, first, after, told := api.OK, 1, uint64(0), bytes.Clone(before), uint64(0)
			switch {
			case !there(at, 8, 128):
				want, steps = api.ErrRange, 0
			case at%8 != 0:
				want, steps = api.ErrArg, 0
			default:
				first = binary.LittleEndian.Uint64(before[at:])
				binary.LittleEndian.PutUint64(after[at:], w)
				told = w
			}
			if got, err := a.Load(at); got != first || err != want || m.Lap() != steps {
				t.Errorf("Load(%d): %x, %v", at, got, err)
			}
			if err := a.Store(at, w); err != want || m.Lap() != steps {
				t.Errorf("Store(%d, %x): %v", at, w, err)
			}
			if got, err := a.Load(at); got != told || err != want || m.Lap() != steps {
				t.Errorf("Load(%d) of %x: %x, %v", at, w, got, err)
			}
			if got := all(t, a, m); !bytes.Equal(got, after) {
				t.Errorf("Store(%d, %x): %v", at, w, got)
			}
		}
	}
}

// TestRead is P6.3: what Read tells is the caller's own, whoever writes afterwards.
func TestRead(t *testing.T) {
	a, m, before := numbered(t, 1, 64)
	b, _ := a.Read(0, 64)
	c, _ := a.Read(0, 64)
	clear(b)
	b = append(b[:3], 9, 9, 9)
	if got := all(t, a, m); !bytes.Equal(got, before) || !bytes.Equal(c, before) {
		t.Errorf("who was told wrote into the arena, or into what another one was told: %v, %v", got, c)
	}
	a.Fill(0, 64, 77)
	a.Store(8, 5)
	a.Copy(1, 8, 3)
	a.Write(60, []byte{1})
	if !bytes.Equal(c, before) {
		t.Errorf("a later call changed what was told: %v", c)
	}
	part, _ := a.Read(8, 4)
	_ = append(part, 99, 99, 99)
	if got := all(t, a, m); got[12] != 0 || got[16] != 77 {
		t.Errorf("what was put behind the bytes that were told stands in the arena: %v", got)
	}
}

// TestHanded is R3 of Write: what is handed in isn't kept.
func TestHanded(t *testing.T) {
	a, m := made(t, 1, 64)
	b := []byte("abc")
	a.Write(0, b)
	b[0] = 'z'
	if got := all(t, a, m); string(got[:3]) != "abc" {
		t.Errorf("who wrote into what was handed in wrote into the arena: %q", got)
	}
	a.Write(1, []byte("Z"))
	if string(b) != "zbc" {
		t.Errorf("what was handed in was written into: %q", b)
	}
}

// TestNil is P6.3 of an Arena that is nil, and of one that New didn't make.
func TestNil(t *testing.T) {
	for _, a := range []*arena.Arena{nil, new(arena.Arena)} {
		if a.Len() != 0 {
			t.Errorf("Len: %d", a.Len())
		}
		for _, at := range places {
			for _, n := range places {
				if b, err := a.Read(at, n); b != nil || err != api.ErrArg {
					t.Errorf("Read(%d, %d): %v, %v", at, n, b, err)
				}
				if a.Fill(at, n, 0) != api.ErrArg || a.Fill(at, n, 1) != api.ErrArg || a.Copy(at, at, n) != api.ErrArg || a.Copy(0, at, n) != api.ErrArg {
					t.Errorf("at %d, %d bytes: not ErrArg", at, n)
				}
			}
			if w, err := a.Load(at); w != 0 || err != api.ErrArg {
				t.Errorf("Load(%d): %d, %v", at, w, err)
			}
			if a.Store(at, 1) != api.ErrArg || a.Write(at, nil) != api.ErrArg || a.Write(at, []byte{1}) != api.ErrArg {
				t.Errorf("at %d: not ErrArg", at)
			}
		}
	}
}

// model is bytes and steps by the document's words alone.
type model struct {
	bytes []byte
	steps int
}

// do does one of the calls by chance, both to a and to the model, and answers whether both told the same.
func (o *model) do(r *rand.Rand, a *arena.Arena) bool {
	at, from, n, c := r.Intn(len(o.bytes)+20)-10, r.Intn(len(o.bytes)+20)-10, r.Intn(40)-2, byte(r.Intn(4))
	if r.Intn(2) == 0 {
		at &^= 7
	}
	in := there(at, n, len(o.bytes))
	want := api.ErrRange
	if in {
		want = api.OK
	}
	switch r.Intn(6) {
	case 0:
		b, err := a.Read(at, n)
		if !in {
			return err == want && b == nil
		}
		o.steps += n
		return err == want && bytes.Equal(b, o.bytes[at:at+n])
	case 1:
		b := make([]byte, max(n, 0))
		r.Read(b)
		if there(at, len(b), len(o.bytes)) {
			copy(o.bytes[at:], b)
			o.steps += len(b)
			return a.Write(at, b) == api.OK
		}
		return a.Write(at, b) == api.ErrRange
	case 2:
		for i := 0; in && i < n; i++ {
			o.bytes[at+i] = c
			o.steps++
		}
		return a.Fill(at, n, c) == want
	case 3:
		if !in || !there(from, n, len(o.bytes)) {
			return a.Copy(at, from, n) == api.ErrRange
		}
		stood := bytes.Clone(o.bytes[from : from+n])
		copy(o.bytes[at:], stood)
		o.steps += n
		return a.Copy(at, from, n) == api.OK
	case 4:
		w, err := a.Load(at)
		if !there(at, 8, len(o.bytes)) {
			return w == 0 && err == api.ErrRange
		}
		if at%8 != 0 {
			return w == 0 && err == api.ErrArg
		}
		o.steps++
		return w == binary.LittleEndian.Uint64(o.bytes[at:]) && err == api.OK
	}
	w := r.Uint64()
	if !there(at, 8, len(o.bytes)) {
		return a.Store(at, w) == api.ErrRange
	}
	if at%8 != 0 {
		return a.Store(at, w) == api.ErrArg
	}
	o.steps++
	binary.LittleEndian.PutUint64(o.bytes[at:], w)
	return a.Store(at, w) == api.OK
}

// TestByWords is P6.4: after any calls what was laid is told, all else is as before, and just so many steps were charged.
func TestByWords(t *testing.T) {
	r := rand.New(rand.NewSource(6))
	for range 300 {
		pages, size := 1+r.Intn(3), 64+8*r.Intn(4)
		a, m := made(t, pages, size)
		o := &model{bytes: make([]byte, pages*size)}
		for i := range 200 {
			if !o.do(r, a) {
				t.Fatalf("call %d tells another thing than the words", i)
			}
			if m.Total() != o.steps {
				t.Fatalf("call %d: %d steps, not %d", i, m.Total(), o.steps)
			}
			if a.Len() != len(o.bytes) {
				t.Fatalf("call %d: Len %d", i, a.Len())
			}
			if i%10 == 9 {
				o.steps += a.Len()
				if b, err := a.Read(0, a.Len()); err != api.OK || !bytes.Equal(b, o.bytes) {
					t.Fatalf("call %d: all of it is %v, not %v", i, b, o.bytes)
				}
			}
		}
	}
}

// TestGreatest is P6.2 and P6.3 at the far end of the greatest arena.
func TestGreatest(t *testing.T) {
	a, m := made(t, 1024, 4096)
	const most = 1024 * 4096
	if a.Fill(0, most, 3) != api.OK || m.Lap() != most {
		t.Error("not filled")
	}
	if got := all(t, a, m); !bytes.Equal(got, bytes.Repeat([]byte{3}, most)) {
		t.Error("filled by something else")
	}
	if a.Store(most-8, 9) != api.OK || a.Copy(0, most-8, 8) != api.OK || m.Lap() != 9 {
		t.Error("not laid")
	}
	if w, err := a.Load(0); w != 9 || err != api.OK {
		t.Errorf("Load(0): %d, %v", w, err)
	}
	if a.Fill(0, most+1, 0) != api.ErrRange || a.Store(most, 1) != api.ErrRange || a.Write(most, []byte{1}) != api.ErrRange {
		t.Error("laid behind the end")
	}
}
