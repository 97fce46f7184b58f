package varint_test

import (
	"bytes"
	"encoding/binary"
	"math"
	"math/big"
	"testing"

	"tollbar/api"
	"tollbar/octet"
	"tollbar/varint"
)

// The calls of the chapter, with just these signatures.
var (
	_ func(uint64) []byte                     = varint.Put
	_ func(uint64) int                        = varint.Len
	_ func(*octet.Window) (uint64, api.Errno) = varint.Take
	_ func([]byte) (uint64, int, api.Errno)   = varint.Get
)

// sample is numbers and their encodings, written out.
var sample = []struct {
	x uint64
	b []byte
}{
	{0, []byte{0}},
	{1, []byte{1}},
	{127, []byte{127}},
	{128, []byte{128, 1}},
	{129, []byte{129, 1}},
	{255, []byte{255, 1}},
	{256, []byte{128, 2}},
	{300, []byte{172, 2}},
	{16383, []byte{255, 127}},
	{16384, []byte{128, 128, 1}},
	{2097151, []byte{255, 255, 127}},
	{2097152, []byte{128, 128, 128, 1}},
	{1<<56 - 1, []byte{255, 255, 255, 255, 255, 255, 255, 127}},
	{1 << 56, []byte{128, 128, 128, 128, 128, 128, 128, 128, 1}},
	{1<<63 - 1, []byte{255, 255, 255, 255, 255, 255, 255, 255, 127}},
	{1 << 63, []byte{128, 128, 128, 128, 128, 128, 128, 128, 128, 1}},
	{math.MaxUint64, []byte{255, 255, 255, 255, 255, 255, 255, 255, 255, 1}},
}

// numbers is those at which the encoding's length changes, those beside them, and others.
func numbers() []uint64 {
	l := []uint64{math.MaxUint64, math.MaxUint64 - 1, 0x0123456789abcdef, 0xff00ff00ff00ff00, 0x8040201008040201}
	for i := range 64 {
		x := uint64(1) << i
		l = append(l, x-1, x, x+1, x*5, x*127, -x)
	}
	return l
}

// picker gives the same numbers below its argument each time.
func picker() func(n int) int {
	state := uint32(1)
	return func(n int) int {
		state = state*1664525 + 1013904223
		return int(state>>16) % n
	}
}

func TestPut(t *testing.T) { // P2.1
	for _, c := range sample {
		if b := varint.Put(c.x); !bytes.Equal(b, c.b) {
			t.Errorf("Put(%d) = %v, want %v", c.x, b, c.b)
		}
		if n := varint.Len(c.x); n != len(c.b) {
			t.Errorf("Len(%d) = %d, want %d", c.x, n, len(c.b))
		}
	}
}

func TestPutMany(t *testing.T) { // P2.1
	check := func(x uint64) {
		t.Helper()
		want := binary.AppendUvarint(nil, x)
		if b := varint.Put(x); !bytes.Equal(b, want) {
			t.Errorf("Put(%d) = %v, want %v", x, b, want)
		}
		if n := varint.Len(x); n != len(want) {
			t.Errorf("Len(%d) = %d, want %d", x, n, len(want))
		}
	}
	for x := range uint64(40000) {
		check(x)
	}
	for _, x := range numbers() {
		check(x)
	}
}

func TestLenSteps(t *testing.T) { // P2.1
	for n := 1; n < 10; n++ {
		first := uint64(1) << (7 * n) // with one byte more
		if a, b := varint.Len(first-1), varint.Len(first); a != n || b != n+1 {
			t.Errorf("Len(%d) = %d, Len(%d) = %d, want %d, %d", first-1, a, first, b, n, n+1)
		}
	}
}

func TestPutIsNewMemory(t *testing.T) { // P2.1
	for _, c := range sample {
		b := varint.Put(c.x)
		clear(b[:cap(b)])
		if again := varint.Put(c.x); !bytes.Equal(again, c.b) {
			t.Errorf("Put(%d), again: %v, want %v", c.x, again, c.b)
		}
	}
}

// run is so many times a byte, and others behind it.
func run(n int, c byte, behind ...byte) []byte {
	return append(bytes.Repeat([]byte{c}, n), behind...)
}

// wrong is bytes that begin with no number.
var wrong = []struct {
	b   []byte
	err api.Errno
}{
	{nil, api.ErrShort},
	{[]byte{}, api.ErrShort},
	{[]byte{1, 2}[:0], api.ErrShort},
	{[]byte{128}, api.ErrShort},
	{[]byte{255}, api.ErrShort},
	{[]byte{172, 130}, api.ErrShort},
	{[]byte{172, 130}[:1], api.ErrShort},
	{[]byte{172, 2}[:1], api.ErrShort}, // what ends it lies behind the bytes
	{run(8, 255), api.ErrShort},
	{run(9, 128), api.ErrShort},
	{run(9, 255), api.ErrShort},

	{run(10, 128), api.ErrBig}, // nothing ends it
	{run(10, 255), api.ErrBig},
	{run(11, 128), api.ErrBig},
	{run(100, 255), api.ErrBig},
	{run(9, 255, 129), api.ErrBig},
	{run(10, 128, 0), api.ErrBig}, // too late an end
	{run(10, 128, 1), api.ErrBig},
	{run(10, 255, 0, 0), api.ErrBig},
	{run(10, 255, 127), api.ErrBig},
	{run(99, 128, 1), api.ErrBig},
	{run(9, 128, 2), api.ErrBig}, // 2^64
	{run(9, 128, 2, 7), api.ErrBig},
	{run(9, 128, 3), api.ErrBig},
	{run(9, 255, 2), api.ErrBig},
	{run(9, 128, 4), api.ErrBig},
	{run(9, 128, 64), api.ErrBig},
	{run(9, 128, 126), api.ErrBig},
	{run(9, 255, 127), api.ErrBig},

	{[]byte{128, 0}, api.ErrForm},
	{[]byte{255, 0}, api.ErrForm},
	{[]byte{129, 0, 1}, api.ErrForm},
	{[]byte{128, 128, 0}, api.ErrForm},
	{[]byte{172, 130, 0}, api.ErrForm},
	{run(8, 128, 0), api.ErrForm},
	{run(9, 128, 0), api.ErrForm},
	{run(9, 255, 0), api.ErrForm},
	{run(9, 128, 0, 255), api.ErrForm},
}

func TestGet(t *testing.T) { // P2.2
	for _, c := range sample {
		for i, behind := range [][]byte{nil, {0}, {1}, {128}, {255, 255}, run(30, 128), run(30, 0)} {
			b := append(bytes.Clone(c.b), behind...)
			x, n, err := varint.Get(b)
			if x != c.x || n != len(c.b) || err != api.OK {
				t.Errorf("%d: Get(%v) = %d, %d, %v, want %d, %d", i, b, x, n, err, c.x, len(c.b))
			}
		}
	}
}

func TestGetWrong(t *testing.T) { // P2.2
	for _, c := range wrong {
		if x, n, err := varint.Get(c.b); x != 0 || n != 0 || err != c.err {
			t.Errorf("Get(%v) = %d, %d, %v, want %v", c.b, x, n, err, c.err)
		}
	}
}

func TestGetCutShort(t *testing.T) { // P2.2
	for _, y := range numbers() {
		b := varint.Put(y)
		for i := range b {
			if x, n, err := varint.Get(b[:i]); x != 0 || n != 0 || err != api.ErrShort {
				t.Errorf("Get(%v) = %d, %d, %v", b[:i], x, n, err)
			}
		}
	}
}

func TestGetLastByte(t *testing.T) { // P2.2
	for ahead := range 12 {
		for _, fill := range []byte{128, 129, 255} {
			for last := range 256 {
				checkGet(t, run(ahead, fill, byte(last)))
			}
		}
	}
}

func TestGetArbitrary(t *testing.T) { // P2.2
	pick := picker()
	for range 50000 {
		b := make([]byte, pick(14))
		for i := range b {
			b[i] = byte(pick(256))
			if pick(4) > 0 { // else few would be long
				b[i] |= 128
			}
		}
		checkGet(t, b)
	}
}

// checkGet holds Get and Take against the chapter's words, reckoned by great numbers.
func checkGet(t *testing.T, b []byte) {
	t.Helper()
	want, length, bad := plain(b)
	was := bytes.Clone(b)
	if x, n, err := varint.Get(b); x != want || n != length || err != bad {
		t.Errorf("Get(%v) = %d, %d, %v, want %d, %d, %v", b, x, n, err, want, length, bad)
	}
	if !bytes.Equal(b, was) {
		t.Errorf("Get(%v) changes it to %v", was, b)
	}
	w := octet.Open(b)
	if x, err := varint.Take(w); x != want || err != bad {
		t.Errorf("Take(%v) = %d, %v, want %d, %v", b, x, err, want, bad)
	}
	checkRest(t, w, b[length:])
}

// plain is what Get has to answer.
func plain(b []byte) (uint64, int, api.Errno) {
	end := 0
	for end < len(b) && b[end] >= 128 {
		end++
	}
	if end == len(b) && len(b) < 10 {
		return 0, 0, api.ErrShort
	}
	if end >= 10 {
		return 0, 0, api.ErrBig
	}
	sum := new(big.Int)
	for i := end; i >= 0; i-- {
		sum.Mul(sum, big.NewInt(128))
		sum.Add(sum, big.NewInt(int64(b[i]%128)))
	}
	if !sum.IsUint64() {
		return 0, 0, api.ErrBig
	}
	if end > 0 && b[end] == 0 {
		return 0, 0, api.ErrForm
	}
	return sum.Uint64(), end + 1, api.OK
}

// checkRest holds what is left of a Window without an error against bytes, and reads them.
func checkRest(t *testing.T, w *octet.Window, rest []byte) {
	t.Helper()
	if w.Err() != api.OK || w.Left() != len(rest) {
		t.Errorf("error %v, left %d, want %d", w.Err(), w.Left(), len(rest))
	}
	if got := w.Bytes(len(rest)); !bytes.Equal(got, rest) || w.End() != api.OK {
		t.Errorf("left %v, %v, want %v", got, w.End(), rest)
	}
}

func TestTake(t *testing.T) { // P2.3
	for _, c := range sample {
		for _, behind := range [][]byte{nil, {0}, {255}, run(30, 128), run(30, 0)} {
			w := octet.Open(append(bytes.Clone(c.b), behind...))
			if x, err := varint.Take(w); x != c.x || err != api.OK {
				t.Errorf("Take of %v, %v: %d, %v, want %d", c.b, behind, x, err, c.x)
			}
			checkRest(t, w, behind)
		}
	}
}

func TestTakeWrong(t *testing.T) { // P2.3
	for _, c := range wrong {
		w := octet.Open(c.b)
		for range 3 { // each time the same
			if x, err := varint.Take(w); x != 0 || err != c.err {
				t.Errorf("Take of %v: %d, %v, want %v", c.b, x, err, c.err)
			}
			if w.Err() != api.OK || w.Left() != len(c.b) {
				t.Errorf("behind Take of %v: error %v, left %d", c.b, w.Err(), w.Left())
			}
		}
		checkRest(t, w, c.b)
	}
}

func TestTakeRow(t *testing.T) { // P2.3
	w := octet.Open([]byte{9, 172, 2, 0, 128, 0, 1, 200})
	if c := w.Byte(); c != 9 {
		t.Error("Byte", c)
	}
	for i, want := range []uint64{300, 0} {
		if x, err := varint.Take(w); x != want || err != api.OK {
			t.Error(i, x, err)
		}
	}
	if x, err := varint.Take(w); x != 0 || err != api.ErrForm || w.Left() != 4 || w.Err() != api.OK {
		t.Error("128, 0:", x, err, w.Left(), w.Err())
	}
	if c := w.Byte(); c != 128 { // nothing of it is gone, and it goes on behind it
		t.Error("Byte", c)
	}
	for i, want := range []uint64{0, 1} {
		if x, err := varint.Take(w); x != want || err != api.OK {
			t.Error(i, x, err)
		}
	}
	if x, err := varint.Take(w); x != 0 || err != api.ErrShort || w.Left() != 1 || w.Err() != api.OK {
		t.Error("200:", x, err, w.Left(), w.Err())
	}
	if c := w.Byte(); c != 200 || w.End() != api.OK {
		t.Error("Byte", c, w.End())
	}
	if x, err := varint.Take(w); x != 0 || err != api.ErrShort || w.End() != api.OK {
		t.Error("at the end:", x, err, w.End())
	}
}

func TestTakeBehindError(t *testing.T) { // P2.3
	for _, b := range [][]byte{nil, {5}, {172, 2, 5}, {128}, {128, 0}, run(20, 255)} {
		for i, c := range []struct {
			fail func(w *octet.Window)
			err  api.Errno
		}{
			{func(w *octet.Window) { w.Num(9) }, api.ErrArg},
			{func(w *octet.Window) { w.Bytes(-1) }, api.ErrArg},
			{func(w *octet.Window) { w.Bytes(100) }, api.ErrShort},
			{func(w *octet.Window) { w.Sub(100) }, api.ErrShort},
		} {
			w := octet.Open(b)
			c.fail(w)
			for range 2 {
				if x, err := varint.Take(w); x != 0 || err != c.err || w.Err() != c.err || w.Left() != len(b) {
					t.Errorf("%d: Take of %v: %d, %v, then %v, left %d, want %v", i, b, x, err, w.Err(), w.Left(), c.err)
				}
			}
		}
	}
}

func TestTakeOfNil(t *testing.T) { // P2.3
	if x, err := varint.Take(nil); x != 0 || err != api.ErrArg {
		t.Error("nil:", x, err)
	}
	if x, err := varint.Take((*octet.Window)(nil).Sub(0)); x != 0 || err != api.ErrArg {
		t.Error("Sub of nil:", x, err)
	}
	if x, err := varint.Take(new(octet.Window)); x != 0 || err != api.ErrShort {
		t.Error("new:", x, err)
	}
}

func TestTakeStaysInSub(t *testing.T) { // P2.3
	w := octet.Open([]byte{172, 2, 3})
	v := w.Sub(1)
	if x, err := varint.Take(v); x != 0 || err != api.ErrShort || v.Left() != 1 {
		t.Error("cut:", x, err, v.Left())
	}
	if x, err := varint.Take(w); x != 2 || err != api.OK {
		t.Error("behind it:", x, err)
	}
	u := w.Sub(1)
	if x, err := varint.Take(u); x != 3 || err != api.OK || u.End() != api.OK || w.End() != api.OK {
		t.Error("whole:", x, err, u.End(), w.End())
	}
}

func TestPutIsGot(t *testing.T) { // P2.4
	var all []byte
	for _, y := range numbers() {
		b := varint.Put(y)
		if x, n, err := varint.Get(b); x != y || n != len(b) || err != api.OK {
			t.Errorf("Get(Put(%d)) = %d, %d, %v", y, x, n, err)
		}
		all = append(all, b...)
	}
	w := octet.Open(all)
	for _, y := range numbers() {
		if x, err := varint.Take(w); x != y || err != api.OK {
			t.Fatalf("Take = %d, %v, want %d", x, err, y)
		}
	}
	if w.End() != api.OK {
		t.Error(w.End())
	}
}

func TestGotIsPut(t *testing.T) { // P2.4
	for first := range 256 {
		for second := range 256 {
			for _, third := range []byte{0, 1, 127, 128, 255} {
				b := []byte{byte(first), byte(second), third}
				if x, n, err := varint.Get(b); err == api.OK && !bytes.Equal(varint.Put(x), b[:n]) {
					t.Errorf("Get(%v) = %d, %d, Put of that %v", b, x, n, varint.Put(x))
				}
			}
		}
	}
}

func TestNoPrefix(t *testing.T) { // P2.4
	l := numbers()
	for _, x := range l {
		for _, y := range l {
			if a, b := varint.Put(x), varint.Put(y); x != y && bytes.HasPrefix(b, a) {
				t.Errorf("Put(%d) = %v begins with Put(%d) = %v", y, b, x, a)
			}
		}
	}
}
