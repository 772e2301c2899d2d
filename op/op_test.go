package op_test

import (
	"bytes"
	"encoding/binary"
	"math"
	"math/rand"
	"slices"
	"testing"

	"almery/api"
	"almery/op"
)

// The model: an operation's bytes by the document's words.

// right tells whether an operation may be told.
func right(o api.Op) bool {
	switch {
	case o.Kind < 1, o.Kind > 7, len(o.Bytes) > 65535:
		return false
	}
	return len(o.Bytes) == 0 || o.Kind == 4
}

func told(l []api.Op) []byte {
	var out []byte
	for _, o := range l {
		out = append(out, byte(o.Kind))
		for _, n := range []int{o.H, o.A, o.B} {
			out = binary.LittleEndian.AppendUint64(out, uint64(n))
		}
		out = binary.LittleEndian.AppendUint16(out, uint16(len(o.Bytes)))
		out = append(out, o.Bytes...)
	}
	return out
}

// starts tells how many bytes the operation has that b begins with, 0 if that is none.
func starts(b []byte) int {
	if len(b) < 27 || b[0] < 1 || b[0] > 7 {
		return 0
	}
	long := int(b[25]) + 256*int(b[26])
	if long > 0 && b[0] != 4 || len(b) < 27+long {
		return 0
	}
	return 27 + long
}

// wrong tells where the first operation begins that is none, -1 if there is no such one.
func wrong(b []byte) int {
	for at := 0; at < len(b); {
		long := starts(b[at:])
		if long == 0 {
			return at
		}
		at += long
	}
	return -1
}

// same tells whether two lists are the same, nil and empty too.
func same(x, y []api.Op) bool {
	return slices.EqualFunc(x, y, func(o, p api.Op) bool {
		return o.Kind == p.Kind && o.H == p.H && o.A == p.A && o.B == p.B && bytes.Equal(o.Bytes, p.Bytes)
	})
}

// There and back: the list's bytes are the model's, and tell the list.
func back(t *testing.T, l []api.Op) {
	t.Helper()
	b, e := op.Put(l)
	if e != api.OK || !bytes.Equal(b, told(l)) {
		t.Fatalf("Put(%v) = %v, %v, want %v", l, b, e, told(l))
	}
	k, at, e := op.Take(b)
	if e != api.OK || at != 0 || !same(k, l) {
		t.Fatalf("Take(%v) = %v, %d, %v, want %v", b, k, at, e, l)
	}
}

// held holds what Take tells of b against the model.
func held(t *testing.T, b []byte) {
	t.Helper()
	l, at, e := op.Take(b)
	if w := wrong(b); w >= 0 {
		if e != api.ErrForm || at != w || l != nil {
			t.Fatalf("Take(%v) = %v, %d, %v, want nothing, %d and ErrForm", b, l, at, e, w)
		}
		return
	}
	if e != api.OK || at != 0 || !bytes.Equal(told(l), b) {
		t.Fatalf("Take(%v) = %v, %d, %v", b, l, at, e)
	}
	if k, e := op.Put(l); e != api.OK || !bytes.Equal(k, b) {
		t.Fatalf("Put(Take(%v)) = %v, %v", b, k, e)
	}
}

// edges are numbers at which a byte, or a sign, may go wrong.
func edges() []int {
	out := []int{math.MinInt, math.MinInt + 1, math.MaxInt, math.MaxInt - 1}
	for i := range 62 {
		for d := -1; d <= 1; d++ {
			out = append(out, 1<<i+d, -1<<i+d)
		}
	}
	return out
}

// some are operations of all kinds, writes with bytes and without.
func some() []api.Op {
	return []api.Op{
		{Kind: api.Alloc, A: 300},
		{Kind: api.Free, H: 4098},
		{Kind: api.Read, H: 4098, A: 1, B: 258},
		{Kind: api.Write, H: -4098, A: -1, B: 9, Bytes: []byte("a thing")},
		{Kind: api.Write, H: 1},
		{Kind: api.Resize, H: 1 << 62, A: math.MinInt},
		{Kind: api.Tick},
		{Kind: api.Write, H: 2, Bytes: []byte{4}},
		{Kind: api.Set, A: math.MaxInt, B: math.MinInt},
	}
}

// chance is an operation that may be, or, at times, may not.
func chance(r *rand.Rand, e []int) api.Op {
	o := api.Op{Kind: 1 + r.Intn(7), H: e[r.Intn(len(e))], A: r.Intn(1000) - 500, B: e[r.Intn(len(e))]}
	if o.Kind == api.Write {
		o.Bytes = make([]byte, r.Intn(300))
		r.Read(o.Bytes)
	}
	return o
}

func TestExample(t *testing.T) {
	b, e := op.Put([]api.Op{{Kind: api.Tick}})
	want := make([]byte, 27)
	want[0] = 6
	if e != api.OK || !bytes.Equal(b, want) {
		t.Errorf("a tick: %v, %v", b, e)
	}
}

// P19.1: what stands in which byte, written out.
func TestPutBytes(t *testing.T) {
	zero := "\x00\x00\x00\x00\x00\x00\x00\x00"
	less := "\xff\xff\xff\xff\xff\xff\xff\xff"
	for _, c := range []struct {
		o    api.Op
		want string
	}{
		{api.Op{Kind: api.Alloc, A: 300}, "\x01" + zero + "\x2c\x01\x00\x00\x00\x00\x00\x00" + zero + "\x00\x00"},
		{api.Op{Kind: api.Free, H: 4098}, "\x02" + "\x02\x10\x00\x00\x00\x00\x00\x00" + zero + zero + "\x00\x00"},
		{api.Op{Kind: api.Read, B: 255}, "\x03" + zero + zero + "\xff\x00\x00\x00\x00\x00\x00\x00" + "\x00\x00"},
		{api.Op{Kind: api.Write, Bytes: []byte("hi")}, "\x04" + zero + zero + zero + "\x02\x00hi"},
		{api.Op{Kind: api.Write, Bytes: []byte{}}, "\x04" + zero + zero + zero + "\x00\x00"},
		{api.Op{Kind: api.Resize, H: -1, A: -2}, "\x05" + less + "\xfe" + less[1:] + zero + "\x00\x00"},
		{api.Op{Kind: api.Tick, Bytes: []byte{}}, "\x06" + zero + zero + zero + "\x00\x00"},
		{api.Op{Kind: api.Set, H: math.MinInt, A: math.MaxInt, B: 0x0102030405060708}, "\x07" + zero[1:] + "\x80" + less[1:] + "\x7f" + "\x08\x07\x06\x05\x04\x03\x02\x01" + "\x00\x00"},
	} {
		if b, e := op.Put([]api.Op{c.o}); e != api.OK || string(b) != c.want {
			t.Errorf("Put(%v) = %q, %v, want %q", c.o, b, e, c.want)
		}
		if l, at, e := op.Take([]byte(c.want)); e != api.OK || at != 0 || !same(l, []api.Op{c.o}) {
			t.Errorf("Take(%q) = %v, %d, %v, want %v", c.want, l, at, e, c.o)
		}
	}
}

// P19.1: operations stand in turn.
func TestPutInTurn(t *testing.T) {
	var all []byte
	for _, o := range some() {
		one, e := op.Put([]api.Op{o})
		if e != api.OK {
			t.Fatalf("Put(%v): %v", o, e)
		}
		all = append(all, one...)
	}
	if b, e := op.Put(some()); e != api.OK || !bytes.Equal(b, all) {
		t.Errorf("all of them: %v, %v", b, e)
	}
	if b, e := op.Put(nil); e != api.OK || len(b) > 0 {
		t.Errorf("none: %v, %v", b, e)
	}
	if b, e := op.Put([]api.Op{}); e != api.OK || len(b) > 0 {
		t.Errorf("none, not nil: %v, %v", b, e)
	}
}

// P19.1: an operation that may not be, at each place of a script.
func TestPutWrong(t *testing.T) {
	var bad []api.Op
	for _, kind := range append(edges(), 0, 8, 9, 255, 257, 262, 256+4, 1<<32+4) {
		if kind < 1 || kind > 7 {
			bad = append(bad, api.Op{Kind: kind}, api.Op{Kind: kind, Bytes: []byte("x")})
		}
	}
	for kind := 1; kind <= 7; kind++ {
		if kind != api.Write {
			bad = append(bad, api.Op{Kind: kind, Bytes: []byte{0}}, api.Op{Kind: kind, Bytes: make([]byte, 65536)})
		}
	}
	for _, long := range []int{65536, 65537, 65536 + 5, 2 * 65536} {
		bad = append(bad, api.Op{Kind: api.Write, Bytes: make([]byte, long)})
	}
	for _, o := range bad {
		for at := range len(some()) + 1 {
			if b, e := op.Put(slices.Insert(some(), at, o)); e != api.ErrForm || b != nil {
				t.Fatalf("kind %d, %d bytes, at %d: %d bytes, %v", o.Kind, len(o.Bytes), at, len(b), e)
			}
		}
	}
}

// P19.1 and P19.2: how many Bytes a write may have.
func TestManyBytes(t *testing.T) {
	for _, long := range []int{0, 1, 2, 254, 255, 256, 257, 4096, 32767, 32768, 65279, 65280, 65534, 65535} {
		some := make([]byte, long)
		rand.New(rand.NewSource(int64(long))).Read(some)
		back(t, []api.Op{{Kind: api.Tick}, {Kind: api.Write, A: long, Bytes: some}, {Kind: api.Alloc}})
	}
}

// P19.2: what is cut off, byte by byte, is none, from where it begins.
func TestTakeCut(t *testing.T) {
	b := told(some())
	ends := []int{0, 27, 54, 81, 115, 142, 169, 196, 224, 251}
	if len(b) != 251 {
		t.Fatalf("%d bytes", len(b))
	}
	for i := range len(b) + 1 {
		_, whole := slices.BinarySearch(ends, i)
		l, at, e := op.Take(b[:i])
		if whole {
			many := slices.Index(ends, i)
			if e != api.OK || at != 0 || !same(l, some()[:many]) {
				t.Errorf("%d bytes: %v, %d, %v", i, l, at, e)
			}
			continue
		}
		want := 0
		for _, end := range ends {
			if end < i {
				want = end
			}
		}
		if e != api.ErrForm || at != want || l != nil {
			t.Errorf("%d bytes: %v, %d, %v, want %d", i, l, at, e, want)
		}
	}
}

// P19.2: a first byte that is no Kind, and Bytes of what is no write, at each operation of a script.
func TestTakeWrong(t *testing.T) {
	ends := []int{0, 27, 54, 81, 115, 142, 169, 196, 224}
	for i, at := range ends {
		for first := range 256 {
			b := told(some())
			b[at] = byte(first)
			held(t, b)
			if _, where, e := op.Take(b); (first < 1 || first > 7) && (e != api.ErrForm || where != at) {
				t.Errorf("kind %d at %d: %d, %v", first, at, where, e)
			}
		}
		for _, long := range []int{1, 255, 256, 65535} {
			b := told(some())
			b[at+25], b[at+26] = byte(long), byte(long>>8)
			held(t, b)
			if _, where, e := op.Take(b); some()[i].Kind != api.Write && (e != api.ErrForm || where != at) {
				t.Errorf("%d bytes at %d: %d, %v", long, at, where, e)
			}
		}
	}
	// Where two are none, the first one is told.
	b := told(some())
	b[27], b[54], b[224] = 0, 8, 0
	if l, at, e := op.Take(b); e != api.ErrForm || at != 27 || l != nil {
		t.Errorf("three that are none: %v, %d, %v", l, at, e)
	}
	for _, b := range [][]byte{nil, {}} {
		if l, at, e := op.Take(b); e != api.OK || at != 0 || len(l) > 0 {
			t.Errorf("no bytes: %v, %d, %v", l, at, e)
		}
	}
}

// P19.2: bytes behind those that are handed in are none of theirs.
func TestTakeNoFurther(t *testing.T) {
	b := told([]api.Op{{Kind: api.Write, Bytes: []byte("whole")}})
	if l, at, e := op.Take(b[:31:32]); e != api.ErrForm || at != 0 || l != nil {
		t.Errorf("%v, %d, %v", l, at, e)
	}
	if l, _, e := op.Take(b); e != api.OK || string(l[0].Bytes) != "whole" {
		t.Errorf("%v, %v", l, e)
	}
}

// P19.3: scripts are told there and back.
func TestBack(t *testing.T) {
	back(t, some())
	for _, n := range edges() {
		back(t, []api.Op{{Kind: api.Free, H: n}, {Kind: api.Read, A: n, B: -n}, {Kind: api.Write, H: ^n, B: n, Bytes: []byte("b")}})
	}
	r := rand.New(rand.NewSource(19))
	e := edges()
	for range 2000 {
		l := make([]api.Op, r.Intn(12))
		for i := range l {
			l[i] = chance(r, e)
		}
		back(t, l)
	}
}

// P19.3: bytes that are a script are its only form; others are none, from the first operation on that is none.
func TestOnlyForm(t *testing.T) {
	r := rand.New(rand.NewSource(20))
	e := edges()
	right := 0
	for range 20000 {
		var l []api.Op
		for range 1 + r.Intn(4) {
			l = append(l, chance(r, e))
		}
		b := told(l)
		for range r.Intn(3) {
			// A byte that tells how many there are, or which kind, is spoilt more often than its share.
			at := r.Intn(len(b))
			if r.Intn(2) == 0 {
				at = []int{0, 25, 26}[r.Intn(3)]
			}
			b[at] = byte(r.Intn(9))
		}
		b = b[:len(b)-r.Intn(2)*r.Intn(len(b))]
		held(t, b)
		if wrong(b) < 0 {
			right++
		}
	}
	if right < 2000 || right > 18000 {
		t.Errorf("%d of 20000 were right", right)
	}
}

// All short scripts of bytes that are few: the first byte, and the number of Bytes, are what may be wrong.
func TestSmall(t *testing.T) {
	for kind := range 10 {
		for low := range 5 {
			for high := range 2 {
				for long := range 27 + 30 {
					b := make([]byte, long)
					for i := 27; i < long; i++ {
						b[i] = 6
					}
					if long > 0 {
						b[0] = byte(kind)
					}
					if long > 26 {
						b[25], b[26] = byte(low), byte(high)
					}
					held(t, b)
				}
			}
		}
	}
	for kind := -3; kind < 12; kind++ {
		for long := range 4 {
			o := api.Op{Kind: kind, Bytes: make([]byte, long)}
			if b, e := op.Put([]api.Op{o}); right(o) != (e == api.OK) || !right(o) && (e != api.ErrForm || b != nil) {
				t.Errorf("Put(%v) = %v, %v", o, b, e)
			}
		}
	}
}

// R3: what is handed in stays, and what is told is new.
func TestHandedInStays(t *testing.T) {
	l := some()
	b, _ := op.Put(l)
	if !same(l, some()) {
		t.Fatalf("Put wrote into its list: %v", l)
	}
	want := bytes.Clone(b)
	again, _ := op.Put(l)
	for i := range again {
		again[i] = 9
	}
	if !same(l, some()) || !bytes.Equal(b, want) {
		t.Errorf("what Put told shares memory")
	}

	x, _, _ := op.Take(b)
	y, _, _ := op.Take(b)
	for i := range x {
		for j := range x[i].Bytes {
			x[i].Bytes[j] = 200
		}
		_ = append(x[i].Bytes, 201, 202, 203)
		_ = append(x[i].Bytes[:0], 204)
	}
	if !bytes.Equal(b, want) || !same(y, some()) {
		t.Errorf("what Take told shares memory with its bytes, or with what it told again")
	}
	for i := range b {
		b[i] = 0
	}
	if !same(y, some()) {
		t.Errorf("what Take told hangs on its bytes")
	}
}
