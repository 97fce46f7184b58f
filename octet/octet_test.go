package octet_test

import (
	"bytes"
	"math"
	"math/big"
	"testing"

	"tollbar/api"
	"tollbar/octet"
)

// The calls of the chapter, with just these signatures.
var (
	_ func(uint64, int) []byte               = octet.Big
	_ func(uint64) []byte                    = octet.Least
	_ func([]byte) (uint64, bool)            = octet.Value
	_ func([]byte) *octet.Window             = octet.Open
	_ func(*octet.Window) int                = (*octet.Window).Left
	_ func(*octet.Window) byte               = (*octet.Window).Byte
	_ func(*octet.Window, int) uint64        = (*octet.Window).Num
	_ func(*octet.Window, int) []byte        = (*octet.Window).Bytes
	_ func(*octet.Window, int) *octet.Window = (*octet.Window).Sub
	_ func(*octet.Window) api.Errno          = (*octet.Window).Err
	_ func(*octet.Window) api.Errno          = (*octet.Window).End
)

// numbers is those at which the number of bytes changes, and some between.
func numbers() []uint64 {
	l := []uint64{0, math.MaxUint64, 0x0123456789abcdef, 0xff00ff00ff00ff00}
	for i := range 64 {
		x := uint64(1) << i
		l = append(l, x-1, x, x+1)
	}
	return l
}

// modulo is x modulo 2^(8 * size), reckoned without shifts of 64 bits.
func modulo(x uint64, size int) uint64 {
	m := new(big.Int).Exp(big.NewInt(256), big.NewInt(int64(size)), nil)
	return m.Mod(new(big.Int).SetUint64(x), m).Uint64()
}

func TestBig(t *testing.T) { // P1.1
	for i, c := range []struct {
		x    uint64
		size int
		want []byte
	}{
		{0, 1, []byte{0}},
		{0, 8, make([]byte, 8)},
		{1, 1, []byte{1}},
		{255, 1, []byte{255}},
		{256, 1, []byte{0}},
		{257, 1, []byte{1}},
		{256, 2, []byte{1, 0}},
		{0x010203, 2, []byte{2, 3}},
		{0x010203, 3, []byte{1, 2, 3}},
		{0x010203, 5, []byte{0, 0, 1, 2, 3}},
		{0x0102030405060708, 7, []byte{2, 3, 4, 5, 6, 7, 8}},
		{0x0102030405060708, 8, []byte{1, 2, 3, 4, 5, 6, 7, 8}},
		{math.MaxUint64, 8, []byte{255, 255, 255, 255, 255, 255, 255, 255}},
	} {
		if b := octet.Big(c.x, c.size); !bytes.Equal(b, c.want) {
			t.Errorf("%d: Big(%d, %d) = %v, want %v", i, c.x, c.size, b, c.want)
		}
	}
}

func TestBigEverySize(t *testing.T) { // P1.1
	for _, x := range numbers() {
		for size := 1; size <= 8; size++ {
			b := octet.Big(x, size)
			want := make([]byte, size)
			new(big.Int).SetUint64(modulo(x, size)).FillBytes(want)
			if !bytes.Equal(b, want) {
				t.Errorf("Big(%d, %d) = %v, want %v", x, size, b, want)
			}
		}
	}
}

func TestBigWrongSize(t *testing.T) { // P1.1
	for _, size := range []int{0, -1, -8, math.MinInt, 9, 10, 16, 257, math.MaxInt} {
		if b := octet.Big(1, size); b != nil {
			t.Errorf("Big(1, %d) = %v, want nil", size, b)
		}
	}
}

func TestLeast(t *testing.T) { // P1.1
	if b := octet.Least(256); !bytes.Equal(b, []byte{1, 0}) {
		t.Errorf("Least(256) = %v", b)
	}
	for _, x := range numbers() {
		b := octet.Least(x)
		if want := new(big.Int).SetUint64(x).Bytes(); !bytes.Equal(b, want) {
			t.Errorf("Least(%d) = %v, want %v", x, b, want)
		}
		if len(b) > 0 && b[0] == 0 {
			t.Errorf("Least(%d) = %v begins with 0", x, b)
		}
	}
}

func TestValue(t *testing.T) { // P1.1
	full := []byte{255, 255, 255, 255, 255, 255, 255, 255}
	for i, c := range []struct {
		b    []byte
		want uint64
		is   bool
	}{
		{nil, 0, true},
		{[]byte{}, 0, true},
		{[]byte{0}, 0, true},
		{[]byte{7}, 7, true},
		{[]byte{1, 0}, 256, true},
		{[]byte{0, 1, 0}, 256, true},
		{full, math.MaxUint64, true},
		{append([]byte{0}, full...), math.MaxUint64, true},
		{append(make([]byte, 1000), full...), math.MaxUint64, true},
		{make([]byte, 1000), 0, true},
		{[]byte{1, 0, 0, 0, 0, 0, 0, 0}, 1 << 56, true},
		{[]byte{1, 0, 0, 0, 0, 0, 0, 0, 0}, 0, false},
		{append([]byte{1}, full...), 0, false},
		{append([]byte{0, 0, 1}, full...), 0, false},
		{append(full[:8:8], 0), 0, false},
		{append([]byte{1}, make([]byte, 100)...), 0, false},
		{bytes.Repeat([]byte{255}, 17), 0, false},
	} {
		if x, is := octet.Value(c.b); x != c.want || is != c.is {
			t.Errorf("%d: Value(%v) = %d, %v, want %d, %v", i, c.b, x, is, c.want, c.is)
		}
	}
}

func TestValueEveryLength(t *testing.T) { // P1.1
	for n := range 12 {
		for at := range n { // one byte that isn't 0, everywhere
			for _, c := range []byte{1, 127, 128, 255} {
				b := make([]byte, n)
				b[at] = c
				want := new(big.Int).SetBytes(b)
				x, is := octet.Value(b)
				if is != want.IsUint64() || is && x != want.Uint64() || !is && x != 0 {
					t.Errorf("Value(%v) = %d, %v", b, x, is)
				}
			}
		}
	}
}

func TestWrittenIsRead(t *testing.T) { // P1.4
	for _, x := range numbers() {
		if y, is := octet.Value(octet.Least(x)); y != x || !is {
			t.Errorf("Value(Least(%d)) = %d, %v", x, y, is)
		}
		for size := 1; size <= 8; size++ {
			want := modulo(x, size)
			if y, is := octet.Value(octet.Big(x, size)); y != want || !is {
				t.Errorf("Value(Big(%d, %d)) = %d, %v", x, size, y, is)
			}
			w := octet.Open(octet.Big(x, size))
			if y := w.Num(size); y != want || w.End() != api.OK {
				t.Errorf("Num(%d) of Big(%d, %d) = %d, %v", size, x, size, y, w.End())
			}
		}
	}
}

func TestWindowReads(t *testing.T) { // P1.2
	w := octet.Open([]byte{1, 2, 3, 4, 5, 6, 7, 8, 9, 10, 11, 12, 13})
	check := func(left int, end api.Errno) {
		t.Helper()
		if w.Left() != left || w.Err() != api.OK || w.End() != end {
			t.Errorf("left %d, error %v, end %v", w.Left(), w.Err(), w.End())
		}
	}
	check(13, api.ErrForm)
	if c := w.Byte(); c != 1 {
		t.Error("Byte", c)
	}
	check(12, api.ErrForm)
	if x := w.Num(8); x != 0x0203040506070809 {
		t.Error("Num(8)", x)
	}
	check(4, api.ErrForm)
	if b := w.Bytes(0); len(b) != 0 {
		t.Error("Bytes(0)", b)
	}
	check(4, api.ErrForm)
	if x := w.Num(1); x != 10 {
		t.Error("Num(1)", x)
	}
	check(3, api.ErrForm)
	if b := w.Bytes(3); !bytes.Equal(b, []byte{11, 12, 13}) {
		t.Error("Bytes(3)", b)
	}
	check(0, api.OK)
	if b := w.Bytes(0); len(b) != 0 {
		t.Error("Bytes(0) at the end", b)
	}
	check(0, api.OK)
	if c := w.Byte(); c != 0 || w.Err() != api.ErrShort || w.End() != api.ErrShort {
		t.Error("Byte at the end", c, w.Err(), w.End())
	}
}

func TestByteIsWhole(t *testing.T) { // P1.2
	for i := range 256 {
		if c := octet.Open([]byte{byte(i), 9}).Byte(); c != byte(i) {
			t.Errorf("Byte of %d is %d", i, c)
		}
	}
}

func TestWindowWithoutBytes(t *testing.T) { // P1.2
	for i, w := range []*octet.Window{octet.Open(nil), octet.Open([]byte{}), octet.Open([]byte{7}[:0]), new(octet.Window)} {
		if w.Left() != 0 || w.Err() != api.OK || w.End() != api.OK || len(w.Bytes(0)) != 0 || w.End() != api.OK {
			t.Error(i, "new")
		}
		if len(w.Bytes(1)) != 0 || w.Err() != api.ErrShort || w.End() != api.ErrShort {
			t.Error(i, w.Err(), w.End())
		}
	}
}

// read is a call that reads: call tells whether it answers nothing.
type read struct {
	name string
	call func(w *octet.Window) bool
}

func num(size int) func(w *octet.Window) bool {
	return func(w *octet.Window) bool { return w.Num(size) == 0 }
}

func some(n int) func(w *octet.Window) bool {
	return func(w *octet.Window) bool { return len(w.Bytes(n)) == 0 }
}

func sub(n int) func(w *octet.Window) bool {
	return func(w *octet.Window) bool {
		v := w.Sub(n)
		return v != nil && v != w && v.Left() == 0 && v.Err() == w.Err() && v.End() == w.Err()
	}
}

func one(w *octet.Window) bool { return w.Byte() == 0 }

func TestErrors(t *testing.T) { // P1.2, P1.3
	for _, c := range []struct {
		read
		left int
		want api.Errno
	}{
		{read{"Num(0)", num(0)}, 9, api.ErrArg},
		{read{"Num(-1)", num(-1)}, 9, api.ErrArg},
		{read{"Num of the least", num(math.MinInt)}, 9, api.ErrArg},
		{read{"Num(9)", num(9)}, 9, api.ErrArg},
		{read{"Num of the greatest", num(math.MaxInt)}, 9, api.ErrArg},
		{read{"Num(0) of none", num(0)}, 0, api.ErrArg},
		{read{"Num(9) of fewer", num(9)}, 3, api.ErrArg},
		{read{"Num(1)", num(1)}, 0, api.ErrShort},
		{read{"Num(2)", num(2)}, 1, api.ErrShort},
		{read{"Num(8)", num(8)}, 7, api.ErrShort},
		{read{"Byte", one}, 0, api.ErrShort},
		{read{"Bytes(-1)", some(-1)}, 9, api.ErrArg},
		{read{"Bytes(-1) of none", some(-1)}, 0, api.ErrArg},
		{read{"Bytes of the least", some(math.MinInt)}, 9, api.ErrArg},
		{read{"Bytes(1)", some(1)}, 0, api.ErrShort},
		{read{"Bytes(10)", some(10)}, 9, api.ErrShort},
		{read{"Bytes of the greatest", some(math.MaxInt)}, 9, api.ErrShort},
		{read{"Sub(-1)", sub(-1)}, 9, api.ErrArg},
		{read{"Sub of the least", sub(math.MinInt)}, 9, api.ErrArg},
		{read{"Sub(1)", sub(1)}, 0, api.ErrShort},
		{read{"Sub(10)", sub(10)}, 9, api.ErrShort},
		{read{"Sub of the greatest", sub(math.MaxInt)}, 9, api.ErrShort},
	} {
		w := octet.Open(bytes.Repeat([]byte{7}, c.left))
		if !c.call(w) {
			t.Error(c.name, "answers something")
		}
		failed(t, c.name, w, c.left, c.want)
	}
}

// failed checks that a Window has an error, and that nothing that is read behind it changes that.
func failed(t *testing.T, name string, w *octet.Window, left int, want api.Errno) {
	t.Helper()
	for _, r := range []read{
		{"nothing", func(*octet.Window) bool { return true }},
		{"Byte", one}, {"Num(1)", num(1)}, {"Num(8)", num(8)}, {"Num(0)", num(0)}, {"Num(9)", num(9)},
		{"Bytes(0)", some(0)}, {"Bytes(1)", some(1)}, {"Bytes(-1)", some(-1)}, {"Bytes(100)", some(100)},
		{"Sub(0)", sub(0)}, {"Sub(1)", sub(1)}, {"Sub(-1)", sub(-1)}, {"Sub(100)", sub(100)},
	} {
		if !r.call(w) {
			t.Errorf("%s, then %s: something is read", name, r.name)
		}
		if w.Left() != left || w.Err() != want || w.End() != want {
			t.Errorf("%s, then %s: left %d, error %v, end %v", name, r.name, w.Left(), w.Err(), w.End())
		}
	}
}

func TestEndIsNoError(t *testing.T) { // P1.2
	w := octet.Open([]byte{1, 2})
	for left := 2; left > 0; left-- {
		if w.Left() != left || w.End() != api.ErrForm || w.Err() != api.OK {
			t.Error(left, w.Left(), w.Err(), w.End())
		}
		if c := w.Byte(); int(c) != 3-left {
			t.Error(left, c)
		}
	}
	if w.End() != api.OK || w.Err() != api.OK {
		t.Error(w.Err(), w.End())
	}
}

func TestNilWindow(t *testing.T) { // P1.2, P1.3
	failed(t, "nil", nil, 0, api.ErrArg)
	failed(t, "Sub of nil", (*octet.Window)(nil).Sub(0), 0, api.ErrArg)
}

func TestSub(t *testing.T) { // P1.3
	w := octet.Open([]byte{1, 2, 3, 4, 5, 6})
	v := w.Sub(4)
	if w.Left() != 2 || v.Left() != 4 || w.Err() != api.OK || v.Err() != api.OK || v.End() != api.ErrForm {
		t.Error("Sub(4)", w.Left(), v.Left())
	}
	u := v.Sub(2)
	if v.Left() != 2 || u.Left() != 2 || u.Num(2) != 258 || u.End() != api.OK {
		t.Error("Sub of a Sub", v.Left(), u.Left())
	}
	if v.Byte() != 3 || v.Left() != 1 || w.Left() != 2 {
		t.Error("reading a Sub", v.Left(), w.Left())
	}
	if v.Bytes(2); v.Err() != api.ErrShort || w.Err() != api.OK || u.Err() != api.OK {
		t.Error("an error of a Sub", v.Err(), w.Err(), u.Err())
	}
	if b := w.Bytes(2); !bytes.Equal(b, []byte{5, 6}) || w.End() != api.OK {
		t.Error("behind a Sub", b, w.End())
	}
	if x := w.Sub(0); x.Left() != 0 || x.End() != api.OK || w.End() != api.OK {
		t.Error("Sub(0)", x.End(), w.End())
	}
}

func TestSubOutlivesErrors(t *testing.T) { // P1.3
	w := octet.Open([]byte{1, 2, 3})
	v := w.Sub(2)
	if w.Num(0); w.Err() != api.ErrArg || v.Err() != api.OK || v.Num(2) != 258 {
		t.Error("an error behind a Sub", w.Err(), v.Err())
	}
}

func TestNewMemory(t *testing.T) { // P1.2, P1.3
	source := []byte{1, 2, 3, 4, 5, 6, 7, 8, 9}
	w := octet.Open(source[:8])
	for i := range source {
		source[i] = 99
	}
	b := w.Bytes(2)
	if !bytes.Equal(b, []byte{1, 2}) {
		t.Error("Open shares", b)
	}
	b = append(b[:0], 50, 51, 52, 53)
	v := w.Sub(3)
	c := v.Bytes(1)
	_ = append(c, 54, 55, 56, 57) // into what lies behind, if that is shared
	if d := v.Bytes(2); !bytes.Equal(c, []byte{3}) || !bytes.Equal(d, []byte{4, 5}) {
		t.Error("Bytes shares", c, d)
	}
	if d := w.Bytes(3); !bytes.Equal(d, []byte{6, 7, 8}) || !bytes.Equal(b, []byte{50, 51, 52, 53}) {
		t.Error("Sub shares", d, b)
	}
	if !bytes.Equal(source, bytes.Repeat([]byte{99}, 9)) {
		t.Error("what was handed in is changed", source)
	}
}

func TestNumbersAreNewMemory(t *testing.T) { // P1.1
	b, c := octet.Least(256), octet.Big(256, 2)
	b[0], c[0] = 9, 9
	if x := octet.Least(256); !bytes.Equal(x, []byte{1, 0}) {
		t.Error(x)
	}
	if x := octet.Big(256, 2); !bytes.Equal(x, []byte{1, 0}) {
		t.Error(x)
	}
}

// TestBounds holds many rows of reads against a plain reader of the same bytes.
func TestBounds(t *testing.T) { // P1.2 to P1.4
	state := uint32(1)
	pick := func(n int) int { // the same numbers each time
		state = state*1664525 + 1013904223
		return int(state>>16) % n
	}
	for range 3000 {
		source := make([]byte, pick(24))
		for i := range source {
			source[i] = byte(pick(256))
		}
		follow(t, source, pick)
	}
}

// follow reads bytes by a Window, up to an error, and tells where it strays from them.
func follow(t *testing.T, source []byte, pick func(n int) int) {
	t.Helper()
	w, at := octet.Open(source), 0
	for w.Err() == api.OK {
		n := pick(11) - 1
		kind := pick(3)
		var got []byte
		bad := api.OK
		switch kind {
		case 0:
			got = octet.Big(w.Num(n), n)
		case 1:
			got = w.Bytes(n)
		case 2:
			got = w.Sub(n).Bytes(n)
		}
		switch {
		case n < 0 || kind == 0 && (n < 1 || n > 8):
			bad = api.ErrArg
		case n > len(source)-at:
			bad = api.ErrShort
		default:
			at += n
			if !bytes.Equal(got, source[at-n:at]) {
				t.Errorf("%v: call %d of %d at %d: %v", source, kind, n, at-n, got)
			}
		}
		if w.Err() != bad || w.Left() != len(source)-at {
			t.Fatalf("%v: call %d of %d at %d: error %v, left %d", source, kind, n, at, w.Err(), w.Left())
		}
	}
}
