package pack

import (
	"bytes"
	"reflect"
	"strings"
	"testing"

	"tollbar/api"
	"tollbar/spec"
	"tollbar/tlv"
	"tollbar/varint"
)

// No version has a box below its root, an item that may be without kids, or two leaves that differ in their names alone, and no valid tree has more bytes than are let: these tests hand all of them to what is inside.

// other is a Spec whose boxes stand in boxes and in items, and items in boxes; no kids stand in the order of their names.
func other() spec.Spec {
	leaves := func(kids ...spec.Spec) []spec.Spec {
		return append([]spec.Spec{
			{Name: "z", Kind: spec.Leaf, Type: api.Uint, Max: 1<<64 - 1},
			{Name: "y", Kind: spec.Leaf, Type: api.Uint, Max: 1<<64 - 1},
			{Name: "x", Kind: spec.Leaf, Type: api.Enum, Names: []string{"one", "", "t w o"}},
		}, kids...)
	}
	inner := spec.Spec{Name: "inner", Kind: spec.Box, Kids: leaves()}
	item := spec.Spec{Name: "item", Kind: spec.List, Most: 2, Kids: leaves(inner)}
	outer := spec.Spec{Name: "outer", Kind: spec.Box, Kids: leaves(item, inner)}
	return spec.Spec{Kind: spec.Box, Kids: leaves(outer, item)}
}

func node(name, key string, kids ...api.Node) api.Node {
	return api.Node{Name: name, Key: key, Kids: kids}
}

func num(name string, x uint64) api.Node {
	return api.Node{Name: name, Val: api.Val{Kind: api.Uint, Num: x}}
}

func enum(text string) api.Node {
	return api.Node{Name: "x", Val: api.Val{Kind: api.Enum, Text: text}}
}

func data(tag uint64, b ...byte) tlv.Item { return tlv.Item{Tag: tag, Data: b} }

func within(tag uint64, l ...tlv.Item) tlv.Item { return tlv.Item{Tag: tag, Kids: l} }

// plain is items with each empty list nil.
func plain(l []tlv.Item) []tlv.Item {
	var out []tlv.Item
	for _, item := range l {
		out = append(out, tlv.Item{Tag: item.Tag, Data: append([]byte(nil), item.Data...), Kids: plain(item.Kids)})
	}
	return out
}

func wantItems(t *testing.T, n api.Node, want ...tlv.Item) {
	t.Helper()
	if got := itemsOf(other(), n); !reflect.DeepEqual(plain(got), plain(want)) {
		t.Errorf("%v: %v, not %v", n, got, want)
	}
}

func TestBoxes(t *testing.T) { // P13.1
	wantItems(t, node("", ""))
	// A box has no key, and its items begin with none.
	wantItems(t, node("", "", node("outer", "")), within(9))
	wantItems(t, node("", "", node("outer", "", node("inner", ""))), within(9, within(11)))
	wantItems(t, node("", "", node("outer", "", num("z", 7))), within(9, data(2, 7)))
	wantItems(t, node("", "", node("outer", "", node("inner", "", num("y", 0)), num("x", 7))), within(9, data(6), within(11, data(4))))
	// An item of a list has one, even if it has nothing else.
	wantItems(t, node("", "", node("item", "a"), node("item", "b")), within(11, data(0, 'a')), within(11, data(0, 'b')))
	wantItems(t, node("", "", node("item", "")), within(11, data(0)))
	wantItems(t, node("", "", node("item", "a", node("inner", "", num("z", 256)))), within(11, data(0, 'a'), within(9, data(2, 1, 0))))
	wantItems(t, node("", "", node("outer", "", node("item", "a"), node("inner", ""), node("item", "b", node("inner", "")))),
		within(9, within(9, data(0, 'a')), within(9, data(0, 'b'), within(9)), within(11)))
}

// TestOrder has kids that stand in no order, neither that of the schema nor that of names.
func TestOrder(t *testing.T) { // P13.1
	wantItems(t, node("", "", node("item", "b"), num("x", 1), num("z", 2), node("item", "a", num("y", 3), num("z", 4)), node("outer", ""), num("y", 5)),
		data(2, 2), data(4, 5), data(6), within(9), within(11, data(0, 'b')), within(11, data(0, 'a'), data(2, 4), data(4, 3)))
	wantItems(t, node("", "", enum("t w o"), enum("one"), enum(""), enum("one")), data(6, 2), data(6, 0), data(6, 1), data(6, 0))
	wantItems(t, node("", "", node("outer", "", node("inner", "", enum("t w o"), num("z", 9)), num("y", 8))), within(9, data(4, 8), within(11, data(2, 9), data(6, 2))))
}

// TestNames has nodes that differ in their Names alone, which no valid trees of one version do.
func TestNames(t *testing.T) { // P13.3
	wantItems(t, node("", "", num("z", 7)), data(2, 7))
	wantItems(t, node("", "", num("y", 7)), data(4, 7))
	wantItems(t, node("", "", node("item", "a", num("z", 7))), within(11, data(0, 'a'), data(2, 7)))
	wantItems(t, node("", "", node("outer", "", num("z", 7))), within(9, data(2, 7)))
}

// sized is items of that many bytes, from 900 on, in one another or not.
func sized(size int) [][]tlv.Item {
	long := func(size int) tlv.Item {
		n := size - 1 - varint.Len(uint64(size-3))
		return data(2, bytes.Repeat([]byte{9}, n)...)
	}
	return [][]tlv.Item{
		{long(size)},
		{data(4, 1, 2), long(size - 4)},
		{within(5, data(0, 'a'), long(size-6))},
	}
}

func TestTooMany(t *testing.T) { // P13.2
	for _, size := range []int{1000, 8000, 8191, 8192} {
		for i, l := range sized(size) {
			want, err := tlv.Put(l)
			if err != api.OK || len(want) != tlv.Size(l) {
				t.Fatalf("%d, %d: %d bytes, %d", size, i, len(want), err)
			}
			b, err := encoded(3, l)
			if err != api.OK || len(b) != 1+len(want) || b[0] != 3 || !bytes.Equal(b[1:], want) {
				t.Errorf("%d, %d: %d bytes, %d", size, i, len(b), err)
			}
		}
	}
	// What a version has does not count.
	if b, err := encoded(1, sized(api.MaxBytes)[0]); err != api.OK || len(b) != api.MaxBytes+1 {
		t.Errorf("%d bytes, %d", len(b), err)
	}
	for _, size := range []int{8193, 8194, 9000, 20000} {
		for i, l := range sized(size) {
			if tlv.Size(l) <= api.MaxBytes {
				t.Fatalf("%d, %d: %d", size, i, tlv.Size(l))
			}
			if b, err := encoded(3, l); err != api.ErrBig || len(b) != 0 {
				t.Errorf("%d, %d: %d bytes, %d", size, i, len(b), err)
			}
		}
	}
}

// TestTooManyKids has nodes of more kids, and a key of more letters, than those of a valid tree.
func TestTooManyKids(t *testing.T) { // P13.2
	kids := func(last ...api.Node) api.Node {
		var l []api.Node
		for i := range 1365 { // 8190 bytes
			l = append(l, num("z", uint64(1+i%200)), num("y", 1))
		}
		return node("", "", append(l, last...)...)
	}
	key := func(letters int) api.Node { return node("", "", node("item", strings.Repeat("a", letters))) }
	for _, x := range []struct {
		n    api.Node
		size int
		err  api.Errno
	}{
		{kids(), 8190, api.OK},
		{kids(num("z", 0)), 8192, api.OK},
		{kids(num("z", 1)), 8193, api.ErrBig},
		{kids(node("item", "a")), 8195, api.ErrBig},
		{key(8186), 8192, api.OK},
		{key(8187), 8193, api.ErrBig},
	} {
		l := itemsOf(other(), x.n)
		want, _ := tlv.Put(l)
		if x.err == api.OK {
			want = append([]byte{2}, want...)
		}
		b, err := encoded(2, l)
		if tlv.Size(l) != x.size || err != x.err || !bytes.Equal(b, want) {
			t.Errorf("%d, of size %d and not %d: %d bytes, %d", len(l), tlv.Size(l), x.size, len(b), err)
		}
	}
}

func TestVersionBytes(t *testing.T) { // P13.2
	for _, version := range []int{0, 1, 2, 3, 127, 128, 300, 1 << 20} {
		for _, l := range [][]tlv.Item{nil, {data(2, 'a')}} {
			want, _ := tlv.Put(l)
			want = append(varint.Put(uint64(version)), want...)
			if b, err := encoded(version, l); err != api.OK || !bytes.Equal(b, want) {
				t.Errorf("%d: %v, %d, not %v", version, b, err, want)
			}
		}
	}
}

// TestWrongItems has what no node has: such items have no bytes.
func TestWrongItems(t *testing.T) { // P13.2
	for _, l := range [][]tlv.Item{{{Tag: 2, Kids: []tlv.Item{data(2)}}}, {{Tag: 5, Data: []byte{1}}}} {
		if b, err := encoded(3, l); err == api.OK || len(b) != 0 {
			t.Errorf("%v: %v, %d", l, b, err)
		}
	}
}
