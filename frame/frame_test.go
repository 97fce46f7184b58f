package frame_test

import (
	"bytes"
	"encoding/binary"
	"hash/crc32"
	"math"
	"slices"
	"testing"

	"tollbar/api"
	"tollbar/frame"
	"tollbar/varint"
)

// The calls of the chapter, with just these signatures.
var (
	_ func([]byte) uint32                     = frame.Sum
	_ func([]byte) ([]byte, api.Errno)        = frame.Put
	_ func([]byte) ([]byte, int, api.Errno)   = frame.Get
	_ func([]byte) ([][]byte, int, api.Errno) = frame.All
)

var castagnoli = crc32.MakeTable(crc32.Castagnoli)

// sealed is bytes with their sum behind them, whatever they are.
func sealed(parts ...[]byte) []byte {
	b := slices.Concat(parts...)
	return binary.BigEndian.AppendUint32(b, crc32.Checksum(b, castagnoli))
}

// recordOf is the record of bytes, by the chapter's words, however many they are.
func recordOf(b []byte) []byte {
	return sealed(binary.AppendUvarint(nil, uint64(len(b))), b)
}

// filled is so many bytes, of which no two beside each other are the same.
func filled(n int) []byte {
	b := make([]byte, n)
	for i := range b {
		b[i] = byte(i*7 + i/256)
	}
	return b
}

// run is so many times a byte, and others behind it.
func run(n int, c byte, behind ...byte) []byte {
	return append(bytes.Repeat([]byte{c}, n), behind...)
}

// changed is bytes of which one is combined with another one by exclusive or.
func changed(b []byte, place int, by byte) []byte {
	c := bytes.Clone(b)
	c[place] ^= by
	return c
}

// picker gives the same numbers below its argument each time.
func picker() func(n int) int {
	state := uint32(1)
	return func(n int) int {
		state = state*1664525 + 1013904223
		return int(state>>16) % n
	}
}

// lengths is those of the contents that are tried: where the length's bytes grow, and at the limit.
var lengths = []int{0, 1, 2, 3, 4, 5, 9, 126, 127, 128, 129, 300, 4096, 8190, 8191, 8192}

// sums is bytes and their sums, as others tell them.
var sums = []struct {
	b   []byte
	sum uint32
}{
	{[]byte("123456789"), 3808858755},
	{[]byte("123456789"), 0xe3069283},
	{nil, 0},
	{[]byte{}, 0},
	{[]byte{0}, 0x527d5351},
	{[]byte("a"), 0xc1d04330},
	{run(4, 0xff), 0xffffffff},
	{run(32, 0), 0x8a9136aa},
	{run(32, 0xff), 0x62a8ab43},
}

func TestSum(t *testing.T) { // P4.1
	for i, c := range sums {
		if sum := frame.Sum(c.b); sum != c.sum {
			t.Errorf("%d: Sum(%v) = %x, want %x", i, c.b, sum, c.sum)
		}
	}
}

// plainSum is a sum, bit by bit, by the chapter's words.
func plainSum(b []byte) uint32 {
	sum := uint32(math.MaxUint32)
	for _, c := range b {
		sum ^= uint32(c)
		for range 8 {
			odd := sum%2 == 1
			sum /= 2
			if odd {
				sum ^= 2197175160
			}
		}
	}
	return math.MaxUint32 - sum
}

func TestSumByWords(t *testing.T) { // P4.1
	check := func(b []byte) {
		t.Helper()
		if sum, want := frame.Sum(b), plainSum(b); sum != want {
			t.Errorf("Sum(%v) = %x, want %x", b, sum, want)
		}
	}
	for first := range 256 {
		check([]byte{byte(first)})
		for second := range 256 {
			check([]byte{byte(first), byte(second)})
		}
	}
	pick := picker()
	for range 2000 {
		b := make([]byte, pick(40))
		for i := range b {
			b[i] = byte(pick(256))
		}
		check(b)
	}
}

func TestSumOfMany(t *testing.T) { // P4.1
	for _, n := range []int{8191, 8192, 8193, 100000, 1 << 20} {
		if sum, want := frame.Sum(filled(n)), crc32.Checksum(filled(n), castagnoli); sum != want {
			t.Errorf("Sum of %d bytes: %x, want %x", n, sum, want)
		}
	}
}

// sample is bytes and their records, written out.
var sample = []struct{ b, record []byte }{
	{nil, []byte{0, 0x52, 0x7d, 0x53, 0x51}},
	{[]byte{}, []byte{0, 0x52, 0x7d, 0x53, 0x51}},
	{[]byte{0}, []byte{1, 0, 0xe2, 0xc3, 0xef, 0xa5}},
	{[]byte("a"), []byte{1, 97, 0x71, 0x6e, 0xff, 0xc4}},
	{[]byte{1, 97}, []byte{2, 1, 97, 0xaf, 0x04, 0x79, 0x61}},
	{[]byte("123456789"), []byte{9, 49, 50, 51, 52, 53, 54, 55, 56, 57, 0x36, 0xb2, 0x9a, 0xe0}},
}

func TestPut(t *testing.T) { // P4.1
	for i, c := range sample {
		if r, err := frame.Put(c.b); !bytes.Equal(r, c.record) || err != api.OK {
			t.Errorf("%d: Put(%v) = %x, %v, want %x", i, c.b, r, err, c.record)
		}
	}
	for _, n := range lengths {
		if r, err := frame.Put(filled(n)); !bytes.Equal(r, recordOf(filled(n))) || err != api.OK {
			t.Errorf("Put of %d bytes: %d bytes, %v", n, len(r), err)
		}
	}
	r, err := frame.Put(make([]byte, 8192))
	if len(r) != 8198 || r[0] != 128 || r[1] != 64 || err != api.OK {
		t.Errorf("Put of 8192 bytes: %d bytes, %v", len(r), err)
	}
}

func TestPutGreat(t *testing.T) { // P4.1
	for _, n := range []int{8193, 8194, 16384, 1 << 20} {
		if r, err := frame.Put(make([]byte, n)); r != nil || err != api.ErrBig {
			t.Errorf("Put of %d bytes: %d bytes, %v", n, len(r), err)
		}
	}
	// How much room is behind the bytes doesn't matter.
	if r, err := frame.Put(make([]byte, 8192, 20000)); len(r) != 8198 || err != api.OK {
		t.Errorf("Put of 8192 bytes with room: %d bytes, %v", len(r), err)
	}
}

func TestGet(t *testing.T) { // P4.2
	behinds := [][]byte{nil, {0}, {255, 255}, {0, 0x52, 0x7d, 0x53, 0x51}, run(30, 128), filled(9000)}
	check := func(want, record []byte) {
		t.Helper()
		for i, behind := range behinds {
			b, n, err := frame.Get(slices.Concat(record, behind))
			if !bytes.Equal(b, want) || n != len(record) || err != api.OK {
				t.Errorf("%d: Get of a record of %d bytes: %d bytes, %d, %v", i, len(want), len(b), n, err)
			}
		}
	}
	for _, c := range sample {
		check(c.b, c.record)
	}
	for _, n := range lengths {
		check(filled(n), recordOf(filled(n)))
	}
}

// great is lengths of more than 8192 bytes; some turn into small ones, or below 0, if they are cut off or added to.
var great = []uint64{
	8193, 8194, 8320, 16383, 16384, 1 << 16, 1<<16 + 1, 1 << 31, 1<<32 - 4, 1<<32 - 1, 1 << 32, 1<<32 + 1, 1<<32 + 8192,
	1<<63 - 1, 1<<63 - 5, 1 << 63, 1<<63 + 1, math.MaxUint64 - 13, math.MaxUint64 - 5, math.MaxUint64 - 4, math.MaxUint64 - 3, math.MaxUint64,
}

// wrong is bytes that begin with no record.
func wrong() map[string][]refused {
	m := map[string][]refused{
		"no length": {
			{nil, api.ErrShort},
			{[]byte{}, api.ErrShort},
			{[]byte{128}, api.ErrShort},
			{[]byte{255}, api.ErrShort},
			{run(9, 128), api.ErrShort},
			{run(9, 255), api.ErrShort},
		},
		"a length too long": {
			{[]byte{128, 0}, api.ErrForm},
			{[]byte{129, 0, 97, 1, 2, 3, 4}, api.ErrForm},
			{sealed([]byte{128, 0}), api.ErrForm},
			{sealed([]byte{129, 0, 97}), api.ErrForm},
			{sealed([]byte{129, 128, 0, 97}), api.ErrForm},
			{sealed(run(9, 128, 0)), api.ErrForm},
			{sealed([]byte{128, 192, 0}, filled(8192)), api.ErrForm},
		},
		"a length of 2^64 and more": {
			{run(10, 128), api.ErrBig},
			{run(10, 255, 1, 2, 3, 4), api.ErrBig},
			{sealed(run(9, 128, 2)), api.ErrBig},
			{sealed(run(9, 128, 2), filled(9000)), api.ErrBig},
			{sealed(run(10, 128, 0)), api.ErrBig},
			{sealed(run(10, 255, 1)), api.ErrBig},
		},
		"bytes that lack": {
			{[]byte{0}, api.ErrShort},
			{[]byte{0, 0x52, 0x7d, 0x53}, api.ErrShort},
			{[]byte{1}, api.ErrShort},
			{[]byte{1, 97}, api.ErrShort},
			{[]byte{1, 97, 0x71, 0x6e, 0xff}, api.ErrShort},
			{[]byte{2, 97, 0x71, 0x6e, 0xff, 0xc4}, api.ErrShort},
			{[]byte{5, 97, 0x71, 0x6e, 0xff, 0xc4}, api.ErrShort},
			{[]byte{6, 97, 0x71, 0x6e, 0xff, 0xc4}, api.ErrShort},
			{recordOf(filled(8192))[:8197], api.ErrShort},
			{recordOf(filled(8192))[:8194], api.ErrShort},
			{recordOf(filled(8192))[:8193], api.ErrShort},
			{recordOf(filled(8192))[:2], api.ErrShort},
		},
		"another sum": {
			{[]byte{0, 0, 0, 0, 0}, api.ErrSum},
			{[]byte{0, 0x51, 0x53, 0x7d, 0x52}, api.ErrSum},     // the least byte first
			{[]byte{0, 0xad, 0x82, 0xac, 0xae}, api.ErrSum},     // its bits not inverted
			{[]byte{1, 97, 0xc1, 0xd0, 0x43, 0x30}, api.ErrSum}, // of the content alone
			{slices.Concat([]byte{1}, sealed([]byte("a"))), api.ErrSum},
			{slices.Concat([]byte{9}, sealed([]byte("123456789"))), api.ErrSum},
			{slices.Concat([]byte{128, 64}, sealed(filled(8192))), api.ErrSum},
			{[]byte{1, 98, 0x71, 0x6e, 0xff, 0xc4}, api.ErrSum},
			{[]byte{0, 97, 0x71, 0x6e, 0xff, 0xc4}, api.ErrSum},
			{sealed([]byte{0}, []byte{97}), api.ErrSum}, // of more than the record
			{sealed([]byte{3}, []byte("abcd")), api.ErrSum},
			{run(5, 0, 0x52, 0x7d, 0x53, 0x51), api.ErrSum},
		},
	}
	for _, length := range great {
		head := varint.Put(length)
		m["a great length"] = append(m["a great length"],
			refused{sealed(head), api.ErrBig}, refused{sealed(head, []byte("a")), api.ErrBig},
			refused{sealed(head, filled(8193)), api.ErrBig}, refused{sealed(head, filled(20000)), api.ErrBig})
	}
	return m
}

// refused is bytes, and why.
type refused struct {
	b   []byte
	err api.Errno
}

func TestGetWrong(t *testing.T) { // P4.2
	for name, all := range wrong() {
		for i, c := range all {
			if b, n, err := frame.Get(c.b); b != nil || n != 0 || err != c.err {
				t.Errorf("%s, %d: Get = %v, %d, %v, want %v", name, i, b, n, err, c.err)
			}
		}
	}
}

func TestGetFirstError(t *testing.T) { // P4.2
	for i, c := range []refused{
		// The length's own error, though it is too great, and bytes lack.
		{[]byte{129, 192, 0}, api.ErrForm},
		{[]byte{129, 192, 128, 0}, api.ErrForm},
		{run(8, 255, 0), api.ErrForm},
		{[]byte{129, 192}, api.ErrShort},
		{[]byte{144, 0}, api.ErrForm},
		{run(9, 255, 2), api.ErrBig},
		{run(9, 128, 0, 1, 2, 3, 4), api.ErrForm},
		// Too great a length, though bytes lack, or the sum is another one.
		{[]byte{129, 64}, api.ErrBig},
		{[]byte{255, 255, 127}, api.ErrBig},
		{run(9, 255, 1), api.ErrBig},
		{slices.Concat([]byte{129, 64}, filled(8193), []byte{1, 2, 3, 4}), api.ErrBig},
		{slices.Concat([]byte{129, 64}, filled(8193)), api.ErrBig},
		// Bytes that lack, though the sum is another one.
		{[]byte{128, 64}, api.ErrShort},
		{[]byte{0, 0, 0, 0}, api.ErrShort},
		{[]byte{3, 97, 98, 1, 2, 3}, api.ErrShort},
		{[]byte{1, 97, 1, 2, 3}, api.ErrShort},
		{slices.Concat([]byte{128, 64}, filled(8195)), api.ErrShort},
		{slices.Concat([]byte{128, 64}, filled(8196)), api.ErrSum},
	} {
		if b, n, err := frame.Get(c.b); b != nil || n != 0 || err != c.err {
			t.Errorf("%d: Get = %v, %d, %v, want %v", i, b, n, err, c.err)
		}
	}
}

func TestGetCutShort(t *testing.T) { // P4.2
	for _, n := range []int{0, 1, 2, 9, 127, 128, 300, 8192} {
		r := recordOf(filled(n))
		for i := range r {
			// What is cut off still lies behind the slice.
			if b, size, err := frame.Get(r[:i]); b != nil || size != 0 || err != api.ErrShort {
				t.Fatalf("Get of %d bytes of %d: %v, %d, %v", i, len(r), b, size, err)
			}
		}
	}
}

func TestGetWrongBit(t *testing.T) { // P4.2
	for _, n := range []int{0, 1, 9, 127, 128, 300} {
		r := recordOf(filled(n))
		for bit := 8 * (len(r) - 4 - n); bit < 8*len(r); bit++ {
			if b, size, err := frame.Get(changed(r, bit/8, 1<<(bit%8))); b != nil || size != 0 || err != api.ErrSum {
				t.Errorf("Get of a record of %d bytes, bit %d changed: %v, %d, %v", n, bit, b, size, err)
			}
		}
	}
	// The sum is of the length, too.
	for n := range 10 {
		r := slices.Concat(recordOf(filled(n)), filled(20))
		for length := range 20 {
			r[0] = byte(length)
			_, size, err := frame.Get(r)
			if (err == api.OK) != (length == n) || (size == n+5) != (length == n) || err != api.OK && err != api.ErrSum {
				t.Errorf("Get of a record of %d bytes, the length %d: %d, %v", n, length, size, err)
			}
		}
	}
}

// plainGet is what Get has to answer, by the chapter's words.
func plainGet(b []byte) ([]byte, int, api.Errno) {
	length, n, err := varint.Get(b)
	if err != api.OK {
		return nil, 0, err
	}
	if length > 8192 {
		return nil, 0, api.ErrBig
	}
	if uint64(len(b)) < uint64(n)+length+4 {
		return nil, 0, api.ErrShort
	}
	content := b[n:][:length]
	if !bytes.HasPrefix(b, recordOf(content)) {
		return nil, 0, api.ErrSum
	}
	return content, len(recordOf(content)), api.OK
}

// checkAll holds All and Get against the chapter's words; it tells how many records there are.
func checkAll(t *testing.T, b []byte) int {
	t.Helper()
	was := bytes.Clone(b)
	var want [][]byte
	place, bad := 0, api.OK
	for place < len(b) && bad == api.OK {
		content, n, err := plainGet(b[place:])
		if got, m, e := frame.Get(b[place:]); !bytes.Equal(got, content) || m != n || e != err {
			t.Errorf("Get(%x) = %x, %d, %v, want %x, %d, %v", b[place:], got, m, e, content, n, err)
		}
		if bad = err; err == api.OK {
			want = append(want, content)
			place += n
		}
	}
	l, n, err := frame.All(b)
	if !same(l, want) || n != place || err != bad {
		t.Errorf("All(%x) = %x, %d, %v, want %x, %d, %v", b, l, n, err, want, place, bad)
	}
	if !bytes.Equal(b, was) {
		t.Errorf("%x is changed to %x", was, b)
	}
	return len(want)
}

// same tells whether two lists are the same, where nil and empty are.
func same(a, b [][]byte) bool { return slices.EqualFunc(a, b, bytes.Equal) }

func TestAll(t *testing.T) { // P4.2
	for i, l := range [][][]byte{
		nil,
		{nil},
		{nil, nil, nil},
		{[]byte("a")},
		{[]byte("a"), []byte("b")},
		{[]byte("b"), nil, []byte("a"), []byte("b"), nil},
		{filled(8192)},
		{filled(8192), filled(8191), nil, filled(8192)},
		{filled(127), filled(128), filled(300), filled(3)},
		{recordOf([]byte("a")), recordOf(recordOf(nil))},
	} {
		var b []byte
		for _, x := range l {
			b = append(b, recordOf(x)...)
		}
		if got, n, err := frame.All(b); !same(got, l) || n != len(b) || err != api.OK {
			t.Errorf("%d: All = %x, %d, %v", i, got, n, err)
		}
		// With something wrong behind them they are told all the same.
		for name, all := range wrong() {
			for j, c := range all {
				if len(c.b) == 0 {
					continue
				}
				if got, n, err := frame.All(slices.Concat(b, c.b)); !same(got, l) || n != len(b) || err != c.err {
					t.Errorf("%d, %s, %d: All = %x, %d, %v, want %v", i, name, j, got, n, err, c.err)
				}
			}
		}
	}
}

func TestAllOfNothing(t *testing.T) { // P4.2
	for _, b := range [][]byte{nil, {}, recordOf(nil)[:0]} {
		if l, n, err := frame.All(b); len(l) != 0 || n != 0 || err != api.OK {
			t.Errorf("All of nothing: %v, %d, %v", l, n, err)
		}
	}
	for _, b := range [][]byte{{128}, {128, 0}, {129, 64}, {0}, {0, 0, 0, 0, 0}, run(10, 255)} {
		if l, n, err := frame.All(b); len(l) != 0 || n != 0 || err == api.OK {
			t.Errorf("All(%v) = %v, %d, %v", b, l, n, err)
		}
	}
}

func TestAllEndsAtFirstWrong(t *testing.T) { // P4.2
	a, b := recordOf([]byte("a")), recordOf([]byte("bc"))
	for i, c := range []struct {
		b     []byte
		count int
		size  int
		err   api.Errno
	}{
		{slices.Concat(a, b, a), 3, 19, api.OK},
		{slices.Concat(a, changed(b, 1, 1), a), 1, 6, api.ErrSum},
		{slices.Concat(a, changed(b, 6, 1), a), 1, 6, api.ErrSum},
		{slices.Concat(changed(a, 1, 1), b, a), 0, 0, api.ErrSum},
		{slices.Concat(a, b, changed(a, 5, 128)), 2, 13, api.ErrSum},
		{slices.Concat(a, []byte{128, 0}, b), 1, 6, api.ErrForm},
		{slices.Concat(a, []byte{129, 64}, b, filled(9000)), 1, 6, api.ErrBig},
		{slices.Concat(a, []byte{129, 64}, []byte{128, 0}), 1, 6, api.ErrBig},
		{slices.Concat(a, b[:6], a[:0]), 1, 6, api.ErrShort},
		{slices.Concat(a, []byte{100}, b, a), 1, 6, api.ErrShort},
	} {
		if l, n, err := frame.All(c.b); len(l) != c.count || n != c.size || err != c.err {
			t.Errorf("%d: All = %x, %d, %v, want %d, %d, %v", i, l, n, err, c.count, c.size, c.err)
		}
	}
}

func TestAllCutShort(t *testing.T) { // P4.2
	contents := [][]byte{[]byte("abc"), nil, filled(130), []byte("d")}
	var b []byte
	ends := []int{0}
	for _, x := range contents {
		b = append(b, recordOf(x)...)
		ends = append(ends, len(b))
	}
	for i := range len(b) + 1 {
		whole := 0 // records
		for whole < len(contents) && ends[whole+1] <= i {
			whole++
		}
		want := api.ErrShort
		if ends[whole] == i {
			want = api.OK
		}
		if l, n, err := frame.All(b[:i]); !same(l, contents[:whole]) || n != ends[whole] || err != want {
			t.Errorf("All of %d bytes: %x, %d, %v, want %d, %v", i, l, n, err, ends[whole], want)
		}
	}
}

func TestAllOfMany(t *testing.T) { // P4.2
	// If each record were to copy all that stands behind it, this wouldn't end.
	const many = 1 << 20
	b := append(bytes.Repeat(recordOf(nil), many), 7)
	if l, n, err := frame.All(b); len(l) != many || n != len(b)-1 || err != api.ErrShort {
		t.Errorf("All of %d records: %d, %d, %v", many, len(l), n, err)
	}
}

func TestArbitrary(t *testing.T) { // P4.2
	pick := picker()
	count := 0
	for range 20000 {
		var b []byte
		for range pick(6) {
			b = append(b, recordOf(filled(pick(6)*pick(4)*pick(4)))...)
		}
		if len(b) > 0 && pick(2) == 0 {
			b = changed(b, pick(len(b)), byte(pick(256)))
		}
		if pick(3) == 0 {
			b = b[:pick(len(b)+1)]
		}
		if pick(3) == 0 {
			b = append(b, filled(pick(20))...)
		}
		count += checkAll(t, b)
	}
	if count < 10000 {
		t.Errorf("only %d records", count)
	}
	for first := range 256 {
		for second := range 256 {
			checkAll(t, []byte{byte(first), byte(second), 0x52, 0x7d, 0x53, 0x51})
		}
	}
}

func TestPutIsGot(t *testing.T) { // P4.3
	pick := picker()
	var all []byte
	var contents [][]byte
	put := func(x []byte) {
		t.Helper()
		r, err := frame.Put(x)
		if err != api.OK {
			t.Fatalf("Put of %d bytes: %v", len(x), err)
		}
		if b, n, err := frame.Get(r); !bytes.Equal(b, x) || n != len(r) || err != api.OK {
			t.Errorf("Get of Put of %d bytes: %d bytes, %d, %v", len(x), len(b), n, err)
		}
		all = append(all, r...)
		contents = append(contents, x)
	}
	for _, n := range lengths {
		put(filled(n))
	}
	for range 1000 {
		x := make([]byte, pick(200))
		for i := range x {
			x[i] = byte(pick(256))
		}
		put(x)
	}
	if l, n, err := frame.All(all); !same(l, contents) || n != len(all) || err != api.OK {
		t.Errorf("All of what was put: %d, %d, %v", len(l), n, err)
	}
}

// flipped is bytes of which some bits are changed, from a bit on; each byte's lowest bit comes first, as the sum takes them.
func flipped(b []byte, from int, bits uint32) []byte {
	c := bytes.Clone(b)
	for i := range 32 {
		if bits>>i&1 == 1 {
			c[(from+i)/8] ^= 1 << ((from + i) % 8)
		}
	}
	return c
}

func TestBurst(t *testing.T) { // P4.3
	pick := picker()
	for _, n := range []int{1, 2, 4, 5, 6, 40, 127, 128, 300, 8192} {
		r := recordOf(filled(n))
		end := 8 * (len(r) - 4)
		for from := end - 8*n; from < end; from++ {
			room := min(32, end-from)
			patterns := []uint32{1, math.MaxUint32, uint32(pick(1<<16))<<16 | uint32(pick(1<<16)) | 1, 1<<31 | 1, 2197175160, 517762881}
			for _, bits := range patterns {
				bits &= math.MaxUint32 >> (32 - room)
				if n > 300 && from%61 > 0 || bits == 0 {
					continue
				}
				if b, size, err := frame.Get(flipped(r, from, bits)); b != nil || size != 0 || err != api.ErrSum {
					t.Fatalf("Get of a record of %d bytes, %x changed from bit %d: %d bytes, %d, %v", n, bits, from, len(b), size, err)
				}
			}
		}
	}
}

func TestBurstOfAnyBits(t *testing.T) { // P4.3
	// What a change does to the sum is what each of its bits does, combined. So no change within 32 bits is missed,
	// just if no bit's effect is one that those ahead of it make.
	for _, n := range []int{4, 5, 12, 40, 200} {
		r := recordOf(filled(n))
		body, end := r[:len(r)-4], 8*(len(r)-4)
		was := frame.Sum(body)
		for from := end - 8*n; from+32 <= end; from++ {
			var steps [32]uint32 // by the highest bit
			for i := range 32 {
				effect := was ^ frame.Sum(flipped(body, from, 1<<i))
				for high := 31; high >= 0 && effect != 0; high-- {
					if effect>>high&1 == 0 {
						continue
					}
					if steps[high] == 0 {
						steps[high] = effect
						break
					}
					effect ^= steps[high]
				}
				if effect == 0 {
					t.Fatalf("%d bytes: a change from bit %d on, of %d bits at most, leaves the sum as it was", n, from, i+1)
				}
			}
		}
	}
}

// roomy is bytes with room behind them, that is filled as well.
func roomy(b []byte) []byte { return append(bytes.Clone(b), run(50, 0xa5)...)[:len(b)] }

func TestArgumentsStay(t *testing.T) { // P4.1, P4.2
	record := recordOf([]byte("abc"))
	for i, b := range [][]byte{nil, []byte("abc"), filled(8192), filled(8193), record, slices.Concat(record, record), slices.Concat(record, []byte{1}), changed(record, 2, 1)} {
		arg := roomy(b)
		was := bytes.Clone(arg[:cap(arg)])
		frame.Sum(arg)
		frame.Put(arg)
		frame.Get(arg)
		frame.All(arg)
		if !bytes.Equal(arg[:cap(arg)], was) {
			t.Errorf("%d: the argument, or what lies behind it, is changed", i)
		}
	}
}

// scrub fills bytes and the room behind them.
func scrub(b []byte) {
	b = b[:cap(b)]
	for i := range b {
		b[i] = 0xee
	}
}

func TestResultsAreNew(t *testing.T) { // P4.1, P4.2
	for _, n := range lengths {
		arg := filled(n)
		r, _ := frame.Put(arg)
		scrub(arg)
		if !bytes.Equal(r, recordOf(filled(n))) {
			t.Errorf("Put of %d bytes shares memory with them", n)
		}
		arg = recordOf(filled(n))
		b, _, _ := frame.Get(arg)
		scrub(b)
		if !bytes.Equal(arg, recordOf(filled(n))) {
			t.Errorf("Get of %d bytes shares memory with the record", n)
		}
		again, _ := frame.Put(filled(n))
		scrub(r)
		if !bytes.Equal(again, recordOf(filled(n))) {
			t.Errorf("two Puts of %d bytes share memory", n)
		}
	}
}

func TestRecordsShareNothing(t *testing.T) { // P4.2
	contents := [][]byte{[]byte("abc"), nil, []byte("d"), filled(130), []byte("abc"), []byte("d")}
	var b []byte
	for _, x := range contents {
		b = append(b, recordOf(x)...)
	}
	for _, behind := range [][]byte{nil, {3, 97}, run(8, 1)} {
		for i := range contents {
			arg := slices.Concat(b, behind)
			l, _, _ := frame.All(arg)
			other, _, _ := frame.All(arg)
			scrub(l[i])
			for j, x := range contents {
				if j != i && !bytes.Equal(l[j], x) || !bytes.Equal(other[j], x) {
					t.Errorf("the records %d and %d share memory", i, j)
				}
			}
			if !bytes.Equal(arg, slices.Concat(b, behind)) {
				t.Errorf("the record %d shares memory with the argument", i)
			}
			scrub(arg)
			if !same(other, contents) {
				t.Error("the argument shares memory with what was told")
			}
		}
	}
}

func TestSameEachTime(t *testing.T) { // P4.1, P4.2
	r := recordOf([]byte("abc"))
	for range 3 {
		frame.Get(changed(r, 2, 9))
		frame.All([]byte{3})
		frame.Put(filled(9000))
		if sum := frame.Sum([]byte("123456789")); sum != 3808858755 {
			t.Errorf("Sum = %x", sum)
		}
		if b, n, err := frame.Get(r); string(b) != "abc" || n != len(r) || err != api.OK {
			t.Errorf("Get = %v, %d, %v", b, n, err)
		}
		if l, n, err := frame.All(r); len(l) != 1 || n != len(r) || err != api.OK {
			t.Errorf("All = %v, %d, %v", l, n, err)
		}
	}
}
