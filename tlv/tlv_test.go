package tlv_test

import (
	"bytes"
	"encoding/binary"
	"math"
	"slices"
	"testing"

	"tollbar/api"
	"tollbar/tlv"
	"tollbar/varint"
)

// The calls of the chapter, with just these signatures.
var (
	_ func([]tlv.Item) bool                     = tlv.Check
	_ func([]tlv.Item) int                      = tlv.Size
	_ func([]tlv.Item) ([]byte, api.Errno)      = tlv.Put
	_ func([]byte) ([]tlv.Item, api.Errno, int) = tlv.Get
)

// data is an item with bytes, kids one with items.
func data(tag uint64, b ...byte) tlv.Item        { return tlv.Item{Tag: tag, Data: b} }
func kids(tag uint64, l ...tlv.Item) tlv.Item    { return tlv.Item{Tag: tag, Kids: l} }
func list(l ...tlv.Item) []tlv.Item              { return l }
func filled(n int) []byte                        { return bytes.Repeat([]byte{7}, n) }
func run(n int, c byte, behind ...byte) []byte   { return append(bytes.Repeat([]byte{c}, n), behind...) }
func within(ahead []byte, behind ...byte) []byte { return append(bytes.Clone(ahead), behind...) }

// nested is so many items around others, each in the one ahead of it.
func nested(n int, l ...tlv.Item) []tlv.Item {
	for range n {
		l = list(kids(1, l...))
	}
	return l
}

// same tells whether two lists are the same, where nil and empty are.
func same(a, b []tlv.Item) bool {
	return slices.EqualFunc(a, b, func(x, y tlv.Item) bool {
		return x.Tag == y.Tag && bytes.Equal(x.Data, y.Data) && same(x.Kids, y.Kids)
	})
}

// cloned is a list in memory of its own.
func cloned(l []tlv.Item) []tlv.Item {
	c := slices.Clone(l)
	for i := range c {
		c[i].Data = bytes.Clone(c[i].Data)
		c[i].Kids = cloned(c[i].Kids)
	}
	return c
}

// picker gives the same numbers below its argument each time.
func picker() func(n int) int {
	state := uint32(1)
	return func(n int) int {
		state = state*1664525 + 1013904223
		return int(state>>16) % n
	}
}

// sample is lists that may be put, and their bytes, written out.
var sample = []struct {
	l []tlv.Item
	b []byte
}{
	{nil, nil},
	{[]tlv.Item{}, []byte{}},
	{list(data(2, 'a')), []byte{2, 1, 97}},
	{list(kids(1, data(2, 'a'))), []byte{1, 3, 2, 1, 97}},
	{list(data(0)), []byte{0, 0}},
	{list(data(2)), []byte{2, 0}},
	{list(kids(1)), []byte{1, 0}},
	{list(tlv.Item{Tag: 1, Data: []byte{}}), []byte{1, 0}},
	{list(tlv.Item{Tag: 2, Kids: []tlv.Item{}}), []byte{2, 0}},
	{list(data(0, 0, 0)), []byte{0, 2, 0, 0}},
	{list(data(126, 128)), []byte{126, 1, 128}},
	{list(kids(127)), []byte{127, 0}},
	{list(data(128)), []byte{128, 1, 0}},
	{list(kids(129)), []byte{129, 1, 0}},
	{list(data(300, 1, 2, 3)), []byte{172, 2, 3, 1, 2, 3}},
	{list(data(math.MaxUint64-1, 5)), run(1, 254, 255, 255, 255, 255, 255, 255, 255, 255, 1, 1, 5)},
	{list(kids(math.MaxUint64)), run(9, 255, 1, 0)},
	{list(data(2, 'a'), data(2, 'b'), data(0)), []byte{2, 1, 97, 2, 1, 98, 0, 0}},
	{list(data(2, 'a'), kids(1), data(2, 'b')), []byte{2, 1, 97, 1, 0, 2, 1, 98}},
	{list(kids(1, data(2, 'a'), data(4)), data(6, 'b')), []byte{1, 5, 2, 1, 97, 4, 0, 6, 1, 98}},
	{list(kids(1, kids(3), kids(5, data(0, 9))), kids(7)), []byte{1, 7, 3, 0, 5, 3, 0, 1, 9, 7, 0}},
	{list(data(2, filled(127)...)), within([]byte{2, 127}, filled(127)...)},
	{list(data(2, filled(128)...)), within([]byte{2, 128, 1}, filled(128)...)},
	{list(kids(1, data(2, filled(125)...))), within([]byte{1, 127, 2, 125}, filled(125)...)},
	{list(kids(1, data(2, filled(126)...))), within([]byte{1, 128, 1, 2, 126}, filled(126)...)},
	{list(kids(1, data(2, filled(300)...))), within([]byte{1, 175, 2, 2, 172, 2}, filled(300)...)},
	{nested(5, data(2)), []byte{1, 10, 1, 8, 1, 6, 1, 4, 1, 2, 2, 0}},
	{nested(6), []byte{1, 10, 1, 8, 1, 6, 1, 4, 1, 2, 1, 0}},
	{nested(5, data(4), kids(1)), []byte{1, 12, 1, 10, 1, 8, 1, 6, 1, 4, 4, 0, 1, 0}},
	{nested(5, data(2, 'a'), kids(3)), []byte{1, 13, 1, 11, 1, 9, 1, 7, 1, 5, 2, 1, 97, 3, 0}},
}

// great is lists whose Size is that number, near the greatest.
func great(size int) [][]tlv.Item {
	return [][]tlv.Item{
		list(data(2, filled(size-3)...)),
		list(data(128, filled(size-4)...)),
		list(data(2, filled(size-5)...), data(2)),
		list(data(2), kids(3, data(2), data(2, filled(size-10)...))),
		nested(1, data(2, filled(size-6)...)),
		nested(2, data(2, filled(size-9)...)),
		nested(5, data(2, filled(size-18)...)),
		append(slices.Repeat(list(data(2)), (size-3)/2), data(2, filled((size-3)%2+1)...)),
		append(slices.Repeat(list(kids(1, data(2))), (size-4)/4), data(2, filled((size-4)%4+2)...)),
	}
}

func TestSize(t *testing.T) { // P3.1
	for i, c := range sample {
		if n := tlv.Size(c.l); n != len(c.b) {
			t.Errorf("%d: Size = %d, want %d", i, n, len(c.b))
		}
	}
	for _, want := range []int{8000, 8191, 8192, 8193, 10000} {
		for i, l := range great(want) {
			if n := tlv.Size(l); n != want {
				t.Errorf("%d: Size = %d, want %d", i, n, want)
			}
		}
	}
}

func TestSizeOfWrongItems(t *testing.T) { // P3.1
	for i, c := range []struct {
		l    []tlv.Item
		want int
	}{
		// The tag alone tells what the content is.
		{list(tlv.Item{Tag: 2, Kids: list(data(4, 1, 2, 3))}), 2},
		{list(tlv.Item{Tag: 2, Data: filled(4), Kids: list(data(4, 1, 2, 3))}), 6},
		{list(tlv.Item{Tag: 1, Data: filled(4)}), 2},
		{list(tlv.Item{Tag: 1, Data: filled(400), Kids: list(data(4, 1, 2, 3))}), 7},
		{list(kids(1, tlv.Item{Tag: 2, Data: filled(4), Kids: list(data(4))}, tlv.Item{Tag: 3, Data: filled(9)})), 10},
		{list(tlv.Item{Tag: math.MaxUint64, Data: filled(4)}), 11},
		// Too deep, or too great.
		{nested(6, data(2, 'a')), 15},
		{nested(7), 14},
		{nested(50), 100},
		{nested(64), 128},
		{nested(65), 131},
		{list(data(2, filled(1<<20)...)), 1 + 3 + 1<<20},
		{slices.Repeat(list(data(2)), 100000), 200000},
	} {
		if n := tlv.Size(c.l); n != c.want {
			t.Errorf("%d: Size = %d, want %d", i, n, c.want)
		}
	}
}

func TestSizeVeryDeep(t *testing.T) { // P3.1
	const levels = 1 << 16
	want := 0
	for range levels {
		want += 1 + varint.Len(uint64(want))
	}
	if n := tlv.Size(nested(levels)); n != want {
		t.Errorf("Size = %d, want %d", n, want)
	}
}

func TestCheck(t *testing.T) { // P3.1
	for i, c := range sample {
		if !tlv.Check(c.l) {
			t.Errorf("%d: Check refuses it", i)
		}
	}
	for _, size := range []int{8000, 8190, 8191, 8192} {
		for i, l := range great(size) {
			if !tlv.Check(l) {
				t.Errorf("%d: Check refuses a Size of %d", i, size)
			}
		}
	}
	if !tlv.Check(slices.Repeat(list(data(2)), 4096)) {
		t.Error("Check refuses 4096 items without content")
	}
}

// refused is lists that Check refuses, by what is wrong with them.
func refused() map[string][][]tlv.Item {
	self := make([]tlv.Item, 3)
	for i := range self {
		self[i] = tlv.Item{Tag: 1, Kids: self}
	}
	shared := list(data(2))
	for range 5 { // 1000^5 items, in little memory
		shared = slices.Repeat(list(kids(1, shared...)), 1000)
	}
	m := map[string][][]tlv.Item{
		"too deep": {
			nested(6, data(2)), nested(6, data(2, 'a')), nested(7), nested(8), nested(1000),
			nested(1, append(list(data(2)), nested(6)...)...),
			append(list(data(2), kids(1)), nested(7)...),
			append(nested(7), data(2)),
		},
		"within itself": {self, self[:1], nested(3, self...)},
		"too many":      {shared, slices.Repeat(list(data(2)), 4097), slices.Repeat(list(kids(1)), 1<<20), nested(2, slices.Repeat(list(data(2)), 5000)...)},
		"too great":     {list(data(2, filled(1<<20)...)), nested(5, data(2, filled(8192)...))},
	}
	for _, size := range []int{8193, 8194, 9000, 20000} {
		m["too great"] = append(m["too great"], great(size)...)
	}
	for _, wrong := range list(
		tlv.Item{Tag: 2, Kids: list(data(4))},
		tlv.Item{Tag: 0, Kids: list(kids(1))},
		tlv.Item{Tag: 2, Data: filled(1), Kids: list(data(4))},
		tlv.Item{Tag: 1, Data: filled(1)},
		tlv.Item{Tag: 1, Data: []byte{0}, Kids: list(data(4))},
		tlv.Item{Tag: math.MaxUint64, Data: filled(1)},
		tlv.Item{Tag: math.MaxUint64 - 1, Kids: list(data(4))},
	) {
		for depth := range 6 {
			m["not pure"] = append(m["not pure"], nested(depth, wrong), nested(depth, data(2), wrong), nested(depth, wrong, kids(1, data(2))), append(list(kids(1, data(2))), nested(depth, wrong)...))
		}
	}
	return m
}

func TestCheckRefuses(t *testing.T) { // P3.1
	for name, all := range refused() {
		for i, l := range all {
			if tlv.Check(l) {
				t.Errorf("%s, %d: Check takes it", name, i)
			}
		}
	}
}

func TestPut(t *testing.T) { // P3.1
	for i, c := range sample {
		if b, err := tlv.Put(c.l); !bytes.Equal(b, c.b) || err != api.OK {
			t.Errorf("%d: Put = %v, %v, want %v", i, b, err, c.b)
		}
	}
	for i, l := range great(8192) {
		if b, err := tlv.Put(l); len(b) != 8192 || !bytes.Equal(b, plainPut(l)) || err != api.OK {
			t.Errorf("%d: Put has %d bytes, %v", i, len(b), err)
		}
	}
}

func TestPutRefuses(t *testing.T) { // P3.1
	for name, all := range refused() {
		for i, l := range all {
			if b, err := tlv.Put(l); b != nil || err != api.ErrArg {
				t.Errorf("%s, %d: Put has %d bytes, %v", name, i, len(b), err)
			}
		}
	}
}

// plainPut is a list's bytes, by the chapter's words, whatever the list.
func plainPut(l []tlv.Item) []byte {
	var b []byte
	for _, x := range l {
		content := x.Data
		if x.Tag%2 == 1 {
			content = plainPut(x.Kids)
		}
		b = binary.AppendUvarint(b, x.Tag)
		b = binary.AppendUvarint(b, uint64(len(content)))
		b = append(b, content...)
	}
	return b
}

func TestGet(t *testing.T) { // P3.2
	for i, c := range sample {
		if l, err, at := tlv.Get(c.b); !same(l, c.l) || err != api.OK || at != 0 {
			t.Errorf("%d: Get(%v) = %v, %v, %d, want %v", i, c.b, l, err, at, c.l)
		}
	}
	for i, want := range great(8192) {
		if l, err, at := tlv.Get(plainPut(want)); !same(l, want) || err != api.OK || at != 0 {
			t.Errorf("%d: Get of 8192 bytes: %v, %d", i, err, at)
		}
	}
}

// six is the heads of six items in one another, of which the last one has so many bytes of content.
func six(n byte) []byte { return []byte{1, 10 + n, 1, 8 + n, 1, 6 + n, 1, 4 + n, 1, 2 + n, 1, n} }

// wrong is bytes that Get refuses.
var wrong = []struct {
	b   []byte
	err api.Errno
	at  int
}{
	// A tag.
	{[]byte{128}, api.ErrShort, 0},
	{[]byte{255}, api.ErrShort, 0},
	{run(9, 128), api.ErrShort, 0},
	{run(10, 128), api.ErrBig, 0},
	{run(10, 255, 1, 0), api.ErrBig, 0},
	{run(9, 255, 2, 0), api.ErrBig, 0},
	{[]byte{128, 0, 0}, api.ErrForm, 0},
	{[]byte{130, 128, 0, 1, 97}, api.ErrForm, 0},
	{[]byte{2, 0, 128}, api.ErrShort, 2},
	{[]byte{2, 1, 97, 128, 0, 0}, api.ErrForm, 3},
	{within([]byte{2, 1, 97, 1, 0}, run(9, 255, 2, 0)...), api.ErrBig, 5},
	// A length.
	{[]byte{2}, api.ErrShort, 1},
	{[]byte{1}, api.ErrShort, 1},
	{[]byte{128, 1}, api.ErrShort, 2},
	{[]byte{2, 128}, api.ErrShort, 1},
	{[]byte{172, 2, 255, 255}, api.ErrShort, 2},
	{within([]byte{2}, run(9, 128)...), api.ErrShort, 1},
	{within([]byte{2}, run(10, 128)...), api.ErrBig, 1},
	{within([]byte{2}, run(9, 128, 2, 0)...), api.ErrBig, 1},
	{[]byte{2, 128, 0}, api.ErrForm, 1},
	{[]byte{2, 129, 0, 97}, api.ErrForm, 1},
	{[]byte{128, 1, 129, 0, 97}, api.ErrForm, 2},
	{[]byte{2, 1, 97, 2}, api.ErrShort, 4},
	{[]byte{1, 0, 1, 128, 0}, api.ErrForm, 3},
	// A content that passes the end.
	{[]byte{2, 1}, api.ErrShort, 2},
	{[]byte{1, 1}, api.ErrShort, 2},
	{[]byte{2, 2, 97}, api.ErrShort, 2},
	{[]byte{128, 1, 2, 97}, api.ErrShort, 3},
	{[]byte{2, 128, 1, 97}, api.ErrShort, 3},
	{within([]byte{2, 128, 1}, filled(127)...), api.ErrShort, 3},
	{within([]byte{2}, run(9, 255, 1, 97)...), api.ErrShort, 11},            // 2^64 - 1
	{within([]byte{2}, run(9, 128, 1, 97)...), api.ErrShort, 11},            // 2^63
	{within([]byte{2}, run(4, 128, 16, 97)...), api.ErrShort, 6},            // 2^32
	{within([]byte{1}, run(9, 255, 1, 2, 0)...), api.ErrShort, 11},          // -1, as an int
	{within([]byte{2, 0, 1}, run(9, 254, 1, 0, 0)...), api.ErrShort, 13},    // and far below
	{within([]byte{1, 13, 2}, run(9, 255, 1, 97, 97)...), api.ErrShort, 13}, // within another one
	{[]byte{2, 1, 97, 2, 3, 98, 99}, api.ErrShort, 5},
	// The end of what is around, not that of the bytes.
	{[]byte{1, 1, 128, 1, 0, 0}, api.ErrShort, 2},
	{[]byte{1, 1, 2, 0, 0}, api.ErrShort, 3},
	{[]byte{1, 2, 2, 128, 1, 97, 97}, api.ErrShort, 3},
	{[]byte{1, 2, 2, 1, 97, 97}, api.ErrShort, 4},
	{[]byte{1, 3, 2, 2, 97, 97}, api.ErrShort, 4},
	{[]byte{1, 4, 1, 1, 2, 0, 4, 0}, api.ErrShort, 5},
	{[]byte{1, 4, 1, 2, 2, 1, 97, 97}, api.ErrShort, 6},
	{[]byte{1, 7, 2, 1, 97, 1, 2, 4, 3, 97, 97, 97}, api.ErrShort, 9},
	{[]byte{1, 2, 1, 2, 2, 0}, api.ErrShort, 4},
	{[]byte{1, 9, 128, 128, 128, 128, 128, 128, 128, 128, 128, 1, 0}, api.ErrShort, 2},
	// Too deep.
	{within(six(2), 2, 0), api.ErrDeep, 12},
	{within(six(2), 1, 0), api.ErrDeep, 12},
	{within(six(3), 2, 1, 97), api.ErrDeep, 12},
	{within(six(4), 1, 2, 1, 0), api.ErrDeep, 12},
	{within(six(3), 128, 1, 0), api.ErrDeep, 12},
	{within([]byte{2, 1, 97}, within(six(2), 2, 0)...), api.ErrDeep, 15},
	{[]byte{1, 15, 2, 1, 97, 1, 10, 1, 8, 1, 6, 1, 4, 1, 2, 1, 0}, api.ErrDeep, 15},
	{[]byte{1, 14, 1, 12, 1, 10, 1, 8, 1, 6, 4, 0, 1, 2, 2, 0}, api.ErrDeep, 14},
	// Which comes first: of an item the tag, the length, the content, the depth ..
	{[]byte{128, 0, 128, 0}, api.ErrForm, 0},
	{[]byte{128, 128}, api.ErrShort, 0},
	{[]byte{2, 137, 0}, api.ErrForm, 1},
	{within([]byte{2}, run(10, 255)...), api.ErrBig, 1},
	{within(six(2), 128, 0), api.ErrForm, 12},
	{within(six(1), 128), api.ErrShort, 12},
	{within(six(11), run(9, 255, 2, 0)...), api.ErrBig, 12},
	{within(six(1), 2), api.ErrShort, 13},
	{within(six(3), 2, 128, 0), api.ErrForm, 13},
	{within(six(11), within([]byte{2}, run(9, 255, 2)...)...), api.ErrBig, 13},
	{within(six(2), 2, 1), api.ErrShort, 14},
	{within(six(2), 1, 1, 97), api.ErrShort, 14},
	// .. then its kids, and then what stands behind it.
	{[]byte{1, 3, 128, 0}, api.ErrShort, 2},
	{[]byte{1, 9, 128, 0, 0, 128, 0}, api.ErrShort, 2},
	{[]byte{1, 3, 2, 9, 9, 128, 0, 0}, api.ErrShort, 4},
	{[]byte{1, 3, 128, 0, 0, 2, 9}, api.ErrForm, 2},
	{[]byte{2, 1, 97, 1, 3, 2, 129, 0, 128}, api.ErrForm, 6},
	{append(within(six(2), 2, 0), 128, 0), api.ErrDeep, 12},
	{append(within(six(2), 1, 0), 2, 9), api.ErrDeep, 12},
	{append([]byte{128, 0, 0}, within(six(2), 2, 0)...), api.ErrForm, 0},
	{append([]byte{1, 1, 2}, within(six(2), 2, 0)...), api.ErrShort, 3},
}

func TestGetWrong(t *testing.T) { // P3.2
	for i, c := range wrong {
		l, err, at := tlv.Get(c.b)
		if l != nil || err != c.err || at != c.at {
			t.Errorf("%d: Get(%v) = %v, %v, %d, want %v, %d", i, c.b, l, err, at, c.err, c.at)
		}
	}
}

func TestGetGreat(t *testing.T) { // P3.2
	for _, b := range [][]byte{
		make([]byte, 8193), make([]byte, 8194), make([]byte, 100000), run(8193, 128), run(1<<20, 255), run(8193, 1),
		plainPut(great(8193)[0]), plainPut(great(8193)[4]), run(8192, 0, 2),
		within([]byte{128, 0}, make([]byte, 8191)...), within(within(six(2), 2, 0), make([]byte, 8192)...),
	} {
		if l, err, at := tlv.Get(b); l != nil || err != api.ErrBig || at != 0 {
			t.Errorf("Get of %d bytes: %d items, %v, %d", len(b), len(l), err, at)
		}
	}
	for i, c := range []struct {
		b   []byte
		err api.Errno
		at  int
	}{
		{make([]byte, 8192), api.OK, 0},
		{within(make([]byte, 8190), 2, 1), api.ErrShort, 8192},
		{within(make([]byte, 8190), 128, 0), api.ErrForm, 8190},
		{within(make([]byte, 8182), run(10, 128)...), api.ErrBig, 8182},
		{make([]byte, 8191), api.ErrShort, 8191},
		{within(make([]byte, 8178), within(six(2), 1, 0)...), api.ErrDeep, 8190},
		{within([]byte{2, 253, 63}, make([]byte, 8189)...), api.OK, 0},
		{within([]byte{2, 254, 63}, make([]byte, 8189)...), api.ErrShort, 3},
		{make([]byte, 8193)[:8192], api.OK, 0},
	} {
		if l, err, at := tlv.Get(c.b); err != c.err || at != c.at || (l == nil) == (c.err == api.OK) {
			t.Errorf("%d: Get of %d bytes: %d items, %v, %d, want %v, %d", i, len(c.b), len(l), err, at, c.err, c.at)
		}
	}
	if l, _, _ := tlv.Get(make([]byte, 8192)); len(l) != 4096 {
		t.Errorf("Get of 8192 times 0: %d items", len(l))
	}
}

// plainGet is what Get has to answer, by the chapter's words: the items between two offsets.
func plainGet(b []byte, from, end, depth int) ([]tlv.Item, api.Errno, int) {
	var l []tlv.Item
	for at := from; at < end; {
		tag, n, err := varint.Get(b[at:end])
		if err != api.OK {
			return nil, err, at
		}
		size, m, err := varint.Get(b[at+n : end])
		if err != api.OK {
			return nil, err, at + n
		}
		start := at + n + m
		if size > uint64(end-start) {
			return nil, api.ErrShort, start
		}
		if depth > 6 {
			return nil, api.ErrDeep, at
		}
		at = start + int(size)
		x := tlv.Item{Tag: tag}
		if tag%2 == 0 {
			x.Data = bytes.Clone(b[start:at])
		} else {
			k, err, place := plainGet(b, start, at, depth+1)
			if err != api.OK {
				return nil, err, place
			}
			x.Kids = k
		}
		l = append(l, x)
	}
	return l, api.OK, 0
}

// checkGet holds Get against the chapter's words, and what it answers against Put; it tells whether there was no error.
func checkGet(t *testing.T, b []byte) bool {
	t.Helper()
	want, bad, place := plainGet(b, 0, len(b), 1)
	was := bytes.Clone(b)
	l, err, at := tlv.Get(b)
	if !same(l, want) || err != bad || at != place {
		t.Errorf("Get(%v) = %v, %v, %d, want %v, %v, %d", b, l, err, at, want, bad, place)
	}
	if !bytes.Equal(b, was) {
		t.Errorf("Get(%v) changes it to %v", was, b)
	}
	if err != api.OK {
		return false
	}
	if again, err := tlv.Put(l); !bytes.Equal(again, b) || err != api.OK {
		t.Errorf("Put(Get(%v)) = %v, %v", b, again, err)
	}
	return true
}

func TestGetEveryFew(t *testing.T) { // P3.2, P3.3
	for first := range 256 {
		checkGet(t, []byte{byte(first)})
		for second := range 256 {
			checkGet(t, []byte{byte(first), byte(second)})
			for _, third := range []byte{0, 1, 2, 97, 128} {
				checkGet(t, []byte{byte(first), byte(second), third})
				checkGet(t, []byte{1, 3, byte(first), byte(second), third, 2, 0})
			}
		}
	}
}

func TestGetArbitrary(t *testing.T) { // P3.2, P3.3
	pick := picker()
	good := 0
	for range 100000 {
		b := make([]byte, pick(24))
		for i := range b {
			b[i] = byte(pick(6)) // else few would have items
			if pick(20) == 0 {
				b[i] = byte(pick(256))
			}
		}
		if checkGet(t, b) {
			good++
		}
	}
	if good < 5000 {
		t.Errorf("only %d are items", good)
	}
}

// arbitrary is a list that may be put, with at most so many levels.
func arbitrary(pick func(int) int, levels int) []tlv.Item {
	var l []tlv.Item
	for range pick(5) {
		tag := uint64(pick(8))
		if pick(4) == 0 {
			tag = uint64(pick(1<<15)) << pick(50) >> pick(20)
		}
		x := tlv.Item{Tag: tag}
		if tag%2 == 0 {
			x.Data = filled(pick(5))
			if pick(30) == 0 {
				x.Data = filled(pick(300))
			}
		} else if levels > 1 {
			x.Kids = arbitrary(pick, levels-1)
		}
		l = append(l, x)
	}
	return l
}

func TestPutIsGot(t *testing.T) { // P3.1, P3.3
	pick := picker()
	for range 5000 {
		l := arbitrary(pick, 6)
		want := plainPut(l)
		if n := tlv.Size(l); n != len(want) || tlv.Check(l) != (n <= 8192) {
			t.Fatalf("Size = %d, want %d; Check: %v", n, len(want), tlv.Check(l))
		}
		if len(want) > 8192 {
			continue
		}
		b, err := tlv.Put(l)
		if !bytes.Equal(b, want) || err != api.OK {
			t.Fatalf("Put(%v) = %v, %v, want %v", l, b, err, want)
		}
		if got, err, at := tlv.Get(b); !same(got, l) || err != api.OK || at != 0 {
			t.Fatalf("Get(%v) = %v, %v, %d, want %v", b, got, err, at, l)
		}
	}
}

func TestGotIsPut(t *testing.T) { // P3.2, P3.3
	pick := picker()
	for range 5000 {
		b := plainPut(arbitrary(pick, 6))
		if len(b) == 0 || len(b) > 8192 {
			continue
		}
		if !checkGet(t, b) {
			t.Fatalf("Get(%v) refuses it", b)
		}
		b[pick(len(b))] = byte(pick(256)) // changed, cut, and with something behind
		checkGet(t, b)
		checkGet(t, b[:pick(len(b))])
		checkGet(t, append(b, byte(pick(256)))[:min(len(b)+1, 8192)])
	}
}

func TestArgumentsStay(t *testing.T) { // P3.1, P3.2
	room := make([]tlv.Item, 2, 8)
	bytesRoom := make([]byte, 1, 8)
	room[0] = tlv.Item{Tag: 2, Data: bytesRoom}
	room[1] = tlv.Item{Tag: 1, Kids: append(make([]tlv.Item, 0, 8), data(4, 'x'), data(6))}
	was := cloned(room)
	whole, behind, kidsBehind := bytes.Clone(bytesRoom[:8]), cloned(room[:8]), cloned(room[1].Kids[:8])
	tlv.Check(room)
	tlv.Size(room)
	b, _ := tlv.Put(room)
	if !same(room, was) || !same(room[:8], behind) || !same(room[1].Kids[:8], kidsBehind) || !bytes.Equal(bytesRoom[:8], whole) {
		t.Error("a list is changed")
	}
	source := append(make([]byte, 0, 64), b...)
	tlv.Get(source)
	if !bytes.Equal(source[:64], append(bytes.Clone(b), make([]byte, 64-len(b))...)) {
		t.Error("bytes are changed")
	}
}

func TestPutIsNewMemory(t *testing.T) { // P3.1
	l := list(data(2, 'a', 'b'), kids(1, data(4, 'c')))
	want := []byte{2, 2, 97, 98, 1, 3, 4, 1, 99}
	first, _ := tlv.Put(l)
	second, _ := tlv.Put(l)
	clear(first[:cap(first)])
	if again, _ := tlv.Put(l); !bytes.Equal(second, want) || !bytes.Equal(again, want) || !same(l, list(data(2, 'a', 'b'), kids(1, data(4, 'c')))) {
		t.Error("Put shares memory")
	}
	l[0].Data[0], l[1].Kids[0].Data[0] = 'x', 'y'
	if !bytes.Equal(second, want) {
		t.Error("Put keeps its argument")
	}
}

// shown is a list with items of all kinds.
func shown() []tlv.Item {
	return list(data(2, 'a', 'b'), kids(1, data(4, 'c'), kids(3, data(6, 'd')), data(8)), kids(5, data(0, 'e')), data(0, 'f'))
}

func TestGetIsNewMemory(t *testing.T) { // P3.2
	b := plainPut(shown())
	l, _, _ := tlv.Get(b)
	again, _, _ := tlv.Get(b)
	clear(b)
	if !same(l, shown()) {
		t.Error("what Get answers shares the bytes")
	}
	spoil(l)
	if !same(again, shown()) {
		t.Error("what Get answers twice shares memory")
	}
}

func TestGetSharesNoLists(t *testing.T) { // P3.2
	lists, texts := places(shown())
	for i := range lists {
		l, _, _ := tlv.Get(plainPut(shown()))
		mine, _ := places(l)
		_ = append(mine[i], data(98, 'z'), data(98, 'z'), data(98, 'z')) // into what lies behind, if that is shared
		if !same(l, shown()) {
			t.Errorf("list %d shares its room", i)
		}
	}
	for i, was := range texts {
		l, _, _ := tlv.Get(plainPut(shown()))
		_, mine := places(l)
		_ = append(mine[i], "zzzzzzzzzzzzzzzz"...)
		if !same(l, shown()) {
			t.Errorf("bytes %d share their room", i)
		}
		if len(was) == 0 {
			continue
		}
		want := shown()
		_, theirs := places(want)
		mine[i][0], theirs[i][0] = 'z', 'z'
		if !same(l, want) {
			t.Errorf("bytes %d share memory", i)
		}
	}
}

// places is all lists and all bytes of a list of items.
func places(l []tlv.Item) ([][]tlv.Item, [][]byte) {
	lists, texts := [][]tlv.Item{l}, [][]byte{}
	for _, x := range l {
		if x.Tag%2 == 0 {
			texts = append(texts, x.Data)
			continue
		}
		k, b := places(x.Kids)
		lists, texts = append(lists, k...), append(texts, b...)
	}
	return lists, texts
}

// spoil overwrites all that a list holds, its unused room too.
func spoil(l []tlv.Item) {
	for i := range l {
		clear(l[i].Data[:cap(l[i].Data)])
		spoil(l[i].Kids)
	}
	clear(l[:cap(l)])
}

func TestListWithinItself(t *testing.T) { // P3.1: it ends, whatever it answers of what has no size
	l := make([]tlv.Item, 1)
	l[0] = tlv.Item{Tag: 1, Kids: l}
	if tlv.Size(l) < 0 {
		t.Error("Size")
	}
}
