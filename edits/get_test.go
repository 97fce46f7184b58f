package edits_test

import (
	"bytes"
	"math/rand"
	"slices"
	"strings"
	"testing"

	"tollbar/api"
	"tollbar/diff"
	"tollbar/edits"
	"tollbar/parser"
	"tollbar/path"
	"tollbar/tlv"
	"tollbar/valid"
)

// some is edits of each kind, with nodes of each sort.
func some() [][]api.Edit {
	big := box("port[a]", box("class[be]", leaf("depth", 8), with("shaped", api.Val{Kind: api.Bool, Num: 1})), text("default", "be"), box("rule[r]", text("class", "be"), leaf("high", 300)))
	return [][]api.Edit{
		{created(way("a"), api.Node{})}, {deleted(way("a[b]"), box("a[b]"))}, {replaced(way("a"), leaf("a", 0), leaf("a", 70000))}, {replaced(way("a", "b"), text("b", "y"), text("b[k]", ""))}, {created(way("port[a]"), big)}, {deleted(way("port[a]"), big)}, fine(), {replaced(way("a"), big, box("", box("", box("", leaf("", 1)))))}, {created(way("a"), text("a[k]", strings.Repeat("x", 140)))},
	}
}

// TestFronts: each front of an encoding that is none, and an encoding with more behind it.
func TestFronts(t *testing.T) { // P18.2
	for _, l := range some() {
		b, _ := modelPut(l)
		wantGet(t, b, l)
		ends := map[int]bool{0: true}
		for i := range l {
			front, _ := modelPut(l[:i+1])
			ends[len(front)] = true
		}
		for i := range b {
			if err := wantModel(t, b[:i]); (err == api.OK) != ends[i] || !ends[i] && err != api.ErrShort {
				t.Errorf("error %d of the first %d of %v", err, i, b)
			}
		}
		for c := range 256 {
			wantError(t, append(slices.Clip(b), byte(c)), api.ErrShort)
		}
		for _, more := range [][]byte{{0, 0}, {2, 0}, {3, 0}, {1, 0}, {9, 0}, {0x80, 1, 0}, item(2, []byte("/a")), nodeItem(3, leaf("a", 1))} {
			wantError(t, slices.Concat(b, more), api.ErrForm)
			wantError(t, slices.Concat(more, b), api.ErrForm)
		}
		wantGet(t, slices.Concat(b, b), slices.Concat(l, l))
	}
}

// TestErrors: each error of tlv.Get.
func TestErrors(t *testing.T) { // P18.2
	good := editItem(fine()[0])
	for _, c := range []struct {
		b    []byte
		want api.Errno
	}{
		{[]byte{5}, api.ErrShort}, {[]byte{0x85}, api.ErrShort}, {[]byte{5, 0x80}, api.ErrShort}, {[]byte{5, 1}, api.ErrShort}, {[]byte{5, 3, 2, 3, '/'}, api.ErrShort}, // bytes lack
		{[]byte{0x85, 0, 0}, api.ErrForm}, {[]byte{5, 0x80, 0}, api.ErrForm}, {[]byte{5, 3, 0x82, 0, 0}, api.ErrForm}, // longer than need be
		{append(bytes.Repeat([]byte{0xff}, 9), 2, 0), api.ErrBig}, {slices.Concat([]byte{5}, bytes.Repeat([]byte{0xff}, 10)), api.ErrBig}, // numbers of 2^64 and more
		{make([]byte, 8193), api.ErrBig}, {make([]byte, 100000), api.ErrBig}, {bytes.Repeat(good, 8192/len(good)+1), api.ErrBig}, // too long
		{[]byte{3, 12, 3, 10, 7, 8, 7, 6, 7, 4, 7, 2, 7, 0}, api.ErrDeep}, {[]byte{3, 12, 3, 10, 7, 8, 7, 6, 7, 4, 7, 2, 0, 0}, api.ErrDeep}, {[]byte{3, 18, 2, 2, '/', 'a', 3, 12, 0, 0, 7, 8, 7, 6, 7, 4, 7, 2, 0, 0}, api.ErrDeep}, // too deep
	} {
		wantError(t, c.b, c.want)
		wantModel(t, c.b)
		// It is told ahead of items that are no edits.
		bad := item(2, []byte("/a"))
		if len(c.b) < 8000 {
			wantError(t, append(bad, c.b...), c.want)
			wantError(t, append(slices.Clip(good), c.b...), c.want)
		}
	}
	// Just not too long.
	wantError(t, make([]byte, 8192), api.ErrForm)
	wantError(t, item(2, make([]byte, 8189)), api.ErrForm)
	wantError(t, []byte{3, 10, 3, 8, 7, 6, 7, 4, 7, 2, 0, 0}, api.ErrForm)
}

// TestOtherItems: items that tlv.Get accepts, but that are no edit; each differs in one thing from one that is.
func TestOtherItems(t *testing.T) { // P18.2
	w, name, key := item(2, []byte("/a")), item(0, []byte("a")), item(2, []byte("k"))
	num, word := item(4, []byte{1, 0, 5}), item(4, []byte{6, 1, 'x'})
	kid := item(7, name)
	node, old := item(3, name), item(5, name)
	for _, c := range []struct {
		b    []byte
		want bool
	}{
		// An edit's tag is its kind's.
		{item(3, w, node), true}, {item(5, w, old), true}, {item(7, w, node, old), true},
		{item(1, w, node), false}, {item(1, w), false}, {item(1, w, old), false}, {item(1, w, node, old), false}, {item(9, w, node), false}, {item(9, w, old), false}, {item(9, w, node, old), false}, {item(11, w, node, old), false}, {item(1<<62+3, w, node), false}, {item(1<<63+3, w, node), false}, {item(1<<32+3, w, node), false}, {item(1<<33+5, w, old), false}, {item(259, w, node), false}, {item(1<<64-1, w, node), false}, {item(1<<64-1, w, node, old), false},
		{item(2, w, node), false}, {item(4, w, node), false}, {item(4, w, old), false}, {item(6, w, node), false}, {item(6, w, node, old), false}, {item(8, w, node, old), false}, {item(0, w, node), false}, {item(0), false}, {item(2), false}, {item(4), false},
		// It has what its kind has, and nothing else, in order.
		{item(3), false}, {item(5), false}, {item(7), false}, {item(3, w), false}, {item(5, w), false}, {item(7, w), false}, {item(3, node), false}, {item(5, old), false}, {item(7, node, old), false}, {item(7, w, node), false}, {item(7, w, old), false},
		{item(3, w, old), false}, {item(5, w, node), false}, {item(3, w, node, old), false}, {item(5, w, node, old), false}, {item(7, w, old, node), false}, {item(7, w, node, node), false}, {item(7, w, old, old), false},
		{item(3, node, w), false}, {item(5, old, w), false}, {item(7, node, w, old), false}, {item(7, node, old, w), false}, {item(3, w, w, node), false}, {item(3, w, node, node), false}, {item(5, w, old, old), false}, {item(7, w, node, old, old), false}, {item(7, w, node, old, node), false}, {item(7, w, w, node, old), false}, {item(3, w, node, w), false}, {item(5, w, old, w), false},
		{item(3, w, node, item(0)), false}, {item(3, w, node, item(7, name)), false}, {item(3, w, node, item(9)), false}, {item(5, w, old, item(1)), false}, {item(7, w, node, old, item(6)), false}, {item(3, item(0), w, node), false},
		// The way has the tag 2, a node 3 or 5.
		{item(3, item(0, []byte("/a")), node), false}, {item(3, item(4, []byte("/a")), node), false}, {item(3, item(6, []byte("/a")), node), false}, {item(3, item(1), node), false}, {item(3, item(3, name), node), false},
		{item(3, w, item(1, name)), false}, {item(3, w, item(5, name)), false}, {item(3, w, item(7, name)), false}, {item(3, w, item(2, name)), false}, {item(3, w, item(4, name)), false}, {item(5, w, item(3, name)), false}, {item(5, w, item(7, name)), false}, {item(5, w, item(4, name)), false}, {item(7, w, item(7, name), old), false}, {item(7, w, node, item(7, name)), false},
		// A node has a name, then may have a key, then a value, or kids.
		{item(3, w, item(3, name, key)), true}, {item(3, w, item(3, name, num)), true}, {item(3, w, item(3, name, key, num)), true}, {item(3, w, item(3, name, kid)), true}, {item(3, w, item(3, name, key, kid, kid)), true}, {item(3, w, item(3, item(0))), true},
		{item(3, w, item(3)), false}, {item(3, w, item(3, key)), false}, {item(3, w, item(3, num)), false}, {item(3, w, item(3, kid)), false}, {item(3, w, item(3, key, num)), false}, {item(3, w, item(3, key, kid)), false},
		{item(3, w, item(3, name, name)), false}, {item(3, w, item(3, name, key, key)), false}, {item(3, w, item(3, name, num, num)), false}, {item(3, w, item(3, name, num, word)), false}, {item(3, w, item(3, name, key, num, num)), false},
		{item(3, w, item(3, key, name)), false}, {item(3, w, item(3, num, name)), false}, {item(3, w, item(3, kid, name)), false}, {item(3, w, item(3, name, num, key)), false}, {item(3, w, item(3, name, kid, key)), false}, {item(3, w, item(3, name, kid, num)), false}, {item(3, w, item(3, name, kid, num, kid)), false}, {item(3, w, item(3, name, kid, key, kid)), false}, {item(3, w, item(3, name, kid, name)), false},
		{item(3, w, item(3, name, num, kid)), false}, {item(3, w, item(3, name, word, kid)), false}, {item(3, w, item(3, name, key, word, kid, kid)), false},
		{item(3, w, item(3, item(1))), false}, {item(3, w, item(3, item(2, []byte("a")))), false}, {item(3, w, item(3, name, item(1))), false}, {item(3, w, item(3, name, item(3, name))), false}, {item(3, w, item(3, name, item(5, name))), false}, {item(3, w, item(3, name, item(6))), false}, {item(3, w, item(3, name, item(6, []byte{1, 0, 5}))), false}, {item(3, w, item(3, name, item(8))), false}, {item(3, w, item(3, name, item(9, name))), false}, {item(3, w, item(3, name, kid, item(9))), false}, {item(3, w, item(3, name, key, item(0))), false}, {item(3, w, item(3, name, num, item(1))), false}, {item(3, w, item(3, name, item(1<<32+7, name))), false}, {item(3, w, item(3, name, item(1<<63+4, []byte{1, 0}))), false}, {item(3, w, item(3, item(1<<32))), false}, {item(3, w, item(3, item(256, []byte("a")))), false},
		// A key has bytes.
		{item(3, w, item(3, name, item(2))), false}, {item(3, w, item(3, name, item(2), num)), false}, {item(3, w, item(3, name, item(2), kid)), false}, {item(3, w, item(3, name, item(2, []byte{0}))), true},
		// A kid is a node.
		{item(3, w, item(3, name, item(7, item(0)))), true}, {item(3, w, item(3, name, item(7))), false}, {item(3, w, item(3, name, item(7, key))), false}, {item(3, w, item(3, name, kid, item(7, name, num), kid)), true}, {item(3, w, item(3, name, kid, item(7, num, name), kid)), false}, {item(3, w, item(3, name, kid, item(7, name, num, kid), kid)), false}, {item(3, w, item(3, name, item(7, name, item(7, name, item(2))))), false}, {item(3, w, item(3, name, item(7, name, item(7, name, item(2, []byte("k")))))), true},
	} {
		if _, err, at := tlv.Get(c.b); err != api.OK {
			t.Fatalf("tlv's error is %d at %d of %v", err, at, c.b)
		}
		for _, b := range [][]byte{c.b, slices.Concat(item(3, w, node), c.b), slices.Concat(c.b, item(5, w, old)), slices.Concat(item(3, w, node), c.b, item(7, w, node, old))} {
			if err := wantModel(t, b); err != api.OK && err != api.ErrForm || (err == api.OK) != c.want {
				t.Errorf("error %d of %v", err, b)
			}
		}
	}
}

// TestOtherTexts: the text of a way is one, and that of a way with steps.
func TestOtherTexts(t *testing.T) { // P18.2
	for _, s := range []string{"", "/", "a", "//", "/a/", "//a", "/a//b", "/A", "/1", "/a[]", "/a[", "/a[b", "/a[B]", "/a[b]]", "/a[b]c", "/a[b][c]", "/[b]", "/a ", " /a", "/a\x00", "/a\n", "/ä", "/\xff", "/a.b", "a/b", "/a/b/c/d/e/f/g", "/a/b/c/d/e/f/", "/abcdefghijklm", "/a[abcdefghijklm]", "/a/B", "/a[b]/", "/-", "/a[-]", "\\a", "/a\\b"} {
		for _, b := range [][]byte{item(3, item(2, []byte(s)), nodeItem(3, leaf("a", 1))), item(5, item(2, []byte(s)), nodeItem(5, leaf("a", 1))), item(7, item(2, []byte(s)), nodeItem(3, leaf("a", 1)), nodeItem(5, leaf("a", 2)))} {
			wantError(t, b, api.ErrForm)
			wantError(t, slices.Concat(editItem(fine()[1]), b, editItem(fine()[2])), api.ErrForm)
			wantModel(t, b)
		}
	}
	for _, s := range []string{"/a", "/a[b]", "/a/b/c/d/e/f", "/a[b]/c[d]", "/abcdefghijkl[abcdefghijkl]", "/a-", "/a1[b2]"} {
		w, _, _ := path.Parse(s)
		wantGet(t, item(3, item(2, []byte(s)), nodeItem(3, leaf("a", 1))), []api.Edit{created(w, leaf("a", 1))})
	}
}

// TestOtherValues: bytes of a leaf's value that are none, or others of the same one.
func TestOtherValues(t *testing.T) { // P18.2
	for _, c := range []struct {
		b    []byte
		want bool
	}{
		{nil, false}, {[]byte{0}, false}, {[]byte{1}, false}, {[]byte{255}, false}, // too short
		{[]byte{0, 0}, false}, {[]byte{0, 0, 1}, false}, {[]byte{0, 1}, false}, {[]byte{0, 1, 'x'}, false}, {[]byte{0, 2}, false}, // no leaf
		{[]byte{1, 0}, true}, {[]byte{1, 0, 1}, true}, {[]byte{255, 0}, true}, {[]byte{255, 1, 0}, true}, {[]byte{6, 1, 'x', 'y'}, true}, {[]byte{6, 1, 0, 0}, true}, {[]byte{6, 1, 1}, true},
		{[]byte{1, 0, 255, 255, 255, 255, 255, 255, 255, 255}, true}, {[]byte{1, 0, 1, 0, 0, 0, 0, 0, 0, 0}, true}, {[]byte{1, 0, 1, 0, 0, 0, 0, 0, 0, 0, 0}, false}, {[]byte{1, 0, 255, 255, 255, 255, 255, 255, 255, 255, 255}, false}, {append([]byte{1, 0}, bytes.Repeat([]byte{9}, 300)...), false}, // numbers that are too great
		{[]byte{1, 0, 0}, false}, {[]byte{1, 0, 0, 1}, false}, {[]byte{1, 0, 0, 0}, false}, {[]byte{1, 0, 0, 1, 0, 0, 0, 0, 0, 0}, false}, {[]byte{1, 0, 0, 255, 255, 255, 255, 255, 255, 255, 255}, false}, {[]byte{1, 0, 0, 0, 255, 255, 255, 255, 255, 255, 255, 255}, false}, {append([]byte{1, 0}, make([]byte, 300)...), false}, // noughts ahead
		{[]byte{6, 1}, false}, {[]byte{1, 1}, false}, {[]byte{255, 1}, false}, // no text
		{[]byte{1, 2}, false}, {[]byte{6, 2, 'x'}, false}, {[]byte{1, 255}, false}, {[]byte{1, 128, 1}, false}, {[]byte{6, 3, 1}, false}, {[]byte{6, 'x'}, false}, {[]byte{6, '0', 1}, false}, {[]byte{6, '1', 'x'}, false}, // neither
	} {
		value := item(4, c.b)
		for _, in := range [][]byte{slices.Concat(item(0, []byte("a")), value), slices.Concat(item(0), item(2, []byte("k")), value), slices.Concat(item(0), item(7, item(0, []byte("b")), value)), slices.Concat(item(0), item(7, item(0), item(7, item(0), value), item(7, item(0))))} {
			for _, b := range [][]byte{item(3, item(2, []byte("/a")), item(3, in)), item(5, item(2, []byte("/a")), item(5, in)), item(7, item(2, []byte("/a")), item(3, in), nodeItem(5, leaf("a", 1))), item(7, item(2, []byte("/a")), nodeItem(3, leaf("a", 1)), item(5, in))} {
				if err := wantModel(t, b); err != api.OK && err != api.ErrForm || (err == api.OK) != c.want {
					t.Errorf("error %d of %v", err, b)
				}
			}
		}
	}
	// Each kind, and each second byte.
	for first := range 256 {
		for second := range 256 {
			for _, rest := range [][]byte{nil, {7}} {
				b := item(5, item(2, []byte("/a")), item(5, item(0, []byte("a")), item(4, []byte{byte(first), byte(second)}, rest)))
				want := first > 0 && (second == 0 || second == 1 && len(rest) > 0)
				if err := wantModel(t, b); (err == api.OK) != want {
					t.Errorf("error %d of %v", err, b)
				}
			}
		}
	}
}

// TestChanged: encodings of which one byte is another one, lacks, or is one too many.
func TestChanged(t *testing.T) { // P18.2, P18.3
	seen := map[api.Errno]int{}
	for _, l := range some() {
		b, _ := modelPut(l)
		// The tags and most of the lengths are small numbers.
		most := 256
		if len(b) > 60 {
			most = 20
		}
		for i := range len(b) + 1 {
			for c := range most {
				if i < len(b) {
					other := slices.Clone(b)
					other[i] = byte(c)
					seen[wantModel(t, other)]++
				}
				if c%16 < 8 {
					seen[wantModel(t, slices.Insert(slices.Clone(b), i, byte(c)))]++
				}
			}
			if i < len(b) {
				seen[wantModel(t, slices.Delete(slices.Clone(b), i, i+1))]++
			}
		}
	}
	for _, err := range []api.Errno{api.OK, api.ErrShort, api.ErrForm} {
		if seen[err] < 1000 {
			t.Errorf("error %d was seen %d times alone", err, seen[err])
		}
	}
}

// changes calls a function for each list of items that differs from one in one item: another tag, others in it, one that lacks, twice, or elsewhere.
func changes(l []tlv.Item, call func(l []tlv.Item)) {
	for i, x := range l {
		for tag := range uint64(11) {
			other := slices.Clone(l)
			other[i].Tag = tag
			if x.Tag%2 != tag%2 {
				other[i].Data, other[i].Kids = nil, nil
			}
			call(other)
			call(slices.Insert(slices.Clone(l), i, other[i]))
		}
		call(slices.Delete(slices.Clone(l), i, i+1))
		call(slices.Insert(slices.Clone(l), i, x))
		for k := range l {
			call(slices.Insert(slices.Delete(slices.Clone(l), i, i+1), k, x))
			other := slices.Clone(l)
			other[i], other[k] = other[k], other[i]
			call(other)
		}
		if x.Tag%2 == 0 {
			for _, b := range [][]byte{nil, {0}, {1}, {1, 0}, {0, 0}, {1, 1}, []byte("/a"), []byte("/"), append(slices.Clip(x.Data), 0), append([]byte{0}, x.Data...)} {
				other := slices.Clone(l)
				other[i].Data = b
				call(other)
			}
		}
		changes(x.Kids, func(kids []tlv.Item) {
			other := slices.Clone(l)
			other[i].Kids = kids
			call(other)
		})
	}
	for tag := range uint64(11) {
		call(append(slices.Clip(l), tlv.Item{Tag: tag}))
	}
}

// TestChangedItems: encodings of which one item is another one, lacks, or is one too many.
func TestChangedItems(t *testing.T) { // P18.2, P18.3
	seen := map[api.Errno]int{}
	for _, l := range some() {
		b, _ := modelPut(l)
		items, _, _ := tlv.Get(b)
		changes(items, func(l []tlv.Item) {
			if b, err := tlv.Put(l); err == api.OK {
				seen[wantModel(t, b)]++
			}
		})
	}
	if seen[api.OK] < 100 || seen[api.ErrForm] < 1000 || len(seen) != 2 {
		t.Errorf("errors are %v", seen)
	}
}

// TestSmall: all bytes that are short, and all items that are.
func TestSmall(t *testing.T) { // P18.2
	for a := range 256 {
		wantModel(t, []byte{byte(a)})
		for b := range 256 {
			wantModel(t, []byte{byte(a), byte(b)})
		}
	}
	digits := []byte{0, 1, 2, 3, 4, 5, 7, '/', 'a'}
	b := make([]byte, 5)
	for x := range 9 * 9 * 9 * 9 * 9 {
		for i := range b {
			b[i] = digits[x%9]
			x /= 9
		}
		wantModel(t, b)
		wantModel(t, slices.Concat([]byte{5, 11, 2, 2, '/', 'a', 5}, []byte{5}, b)) // what an Old may have in so many bytes
	}
}

// configs is valid trees of a version, from text.
func configs(t *testing.T, version int) []api.Node {
	limit, shaped, kind, wait := "limit", "", "", ""
	if version > 1 {
		shaped, kind = " shaped true;", " kind core;"
	}
	if version > 2 {
		limit, wait = "depth", "wait 5;"
	}
	class := func(key, depth, rate string) string {
		return "class " + key + " { quantum 1500; rate " + rate + "; burst 3000; " + limit + " " + depth + ";" + shaped + " } "
	}
	var l []api.Node
	for _, s := range []string{
		"", "system ab;", "system core; " + wait, wait, "port a { " + class("be", "8", "1k") + "default be; }", "port a { " + class("be", "9", "1k") + "default be;" + kind + " } port b { up false; " + class("x", "64", "0") + "default x; } " + wait,
		"port b { up true; " + class("x", "1", "1m") + class("y", "2", "300") + "default y; rule r { low 0; high 65535; class x; } rule s { low 1; high 256; class y; } } system a;", "port abcdefghijkl { " + class("abcdefghijkl", "8", "999999") + "default abcdefghijkl; rule abcdefghijkl { low 9; high 10; class abcdefghijkl; } }",
	} {
		got, n, err, at := parser.Parse("version " + string(rune('0'+version)) + "; " + s)
		if err != api.OK || got != version || !valid.May(version, n) {
			t.Fatalf("error %d at %v of %s", err, at, s)
		}
		l = append(l, n)
	}
	return l
}

// TestDiff: the edits between valid trees may be put, and are got back.
func TestDiff(t *testing.T) { // P18.3
	for version := 1; version <= 3; version++ {
		l := configs(t, version)
		for _, a := range l {
			for _, b := range l {
				for _, x := range [][]api.Edit{diff.Edits(a, b), diff.Inverse(diff.Edits(a, b))} {
					if err := wantModelPut(t, x); err != api.OK {
						t.Errorf("error %d of %s", err, short(show(x)))
					}
					bytes, _ := edits.Put(x)
					if again, err := edits.Get(bytes); err != api.OK || !diff.Same(again, x) || !edits.Check(x) {
						t.Errorf("error %d, and\n%s", err, short(show(again)))
					}
				}
			}
		}
	}
}

// grown is a tree, as a source of numbers has it: one that may be put, mostly.
func grown(pick func(n int) int, depth int) api.Node {
	n := api.Node{Name: []string{"a", "", "port", "\xff\x00", "b"}[pick(5)], Key: []string{"", "k", "", "a/"}[pick(4)]}
	if depth == 0 || pick(3) == 0 {
		n.Val.Kind = []int{0, 1, 6, 255, 1, 256, 2, 3, -1, 4, 5, 6, 1, 1, 1, 1}[pick(16)]
		switch pick(3) {
		case 0:
			n.Val.Num = []uint64{0, 1, 255, 256, 1 << 40, 1<<64 - 1}[pick(6)]
		case 1:
			n.Val.Text = []string{"x", "", "\x00\x01"}[pick(3)]
		}
	} else {
		for range pick(4) {
			n.Kids = append(n.Kids, grown(pick, depth-1))
		}
	}
	switch pick(40) {
	case 0:
		n.Kids = append(n.Kids, api.Node{})
	case 1:
		n.Val.Num++
	case 2:
		n.Val.Text += "x"
	}
	return n
}

// anEdit is an edit, as a source of numbers has it: one that may be put, mostly.
func anEdit(pick func(n int) int) api.Edit {
	x := api.Edit{Kind: 1 + pick(3)}
	for range 1 + pick(3) {
		x.Way = append(x.Way, step([]string{"a", "port[a]", "b[c]", "class"}[pick(4)]))
	}
	if x.Kind != 2 {
		x.Node = grown(pick, pick(4))
	}
	if x.Kind != 1 {
		x.Old = grown(pick, pick(4))
	}
	switch pick(24) {
	case 0:
		x.Kind = pick(6) - 1
	case 1:
		x.Way = nil
	case 2:
		x.Way = append(x.Way, step("A"))
	case 3:
		x.Way = append(x.Way, way("a", "b", "c", "d", "e")[:3+pick(3)]...)
	case 4:
		x.Old = grown(pick, 1)
	case 5:
		x.Node = chain(5, x.Node)
	}
	return x
}

// TestMany: edits that are made at random, and their bytes with a few others.
func TestMany(t *testing.T) { // P18.1, P18.2, P18.3
	random := rand.New(rand.NewSource(18))
	put, got := map[api.Errno]int{}, map[api.Errno]int{}
	for range 20000 {
		var l []api.Edit
		for range random.Intn(4) {
			l = append(l, anEdit(random.Intn))
		}
		put[wantModelPut(t, l)]++
		b, err := modelPut(l)
		if err != api.OK || len(b) == 0 {
			continue
		}
		for range 4 {
			other := slices.Clone(b)
			for range 1 + random.Intn(2) {
				other[random.Intn(len(b))] = byte(random.Intn(12))
			}
			got[wantModel(t, other)]++
		}
	}
	for _, err := range []api.Errno{api.OK, api.ErrArg, api.ErrBig} {
		if put[err] < 200 {
			t.Errorf("error %d of Put was seen %d times alone", err, put[err])
		}
	}
	for _, err := range []api.Errno{api.OK, api.ErrShort, api.ErrForm, api.ErrDeep} {
		if got[err] < 20 {
			t.Errorf("error %d of Get was seen %d times alone", err, got[err])
		}
	}
}

// FuzzGet: bytes, and edits that are made of them.
func FuzzGet(f *testing.F) { // P18.1, P18.2, P18.3
	for _, l := range some() {
		b, _ := modelPut(l)
		f.Add(b)
	}
	f.Add([]byte{})
	f.Fuzz(func(t *testing.T, b []byte) {
		wantModel(t, b)
		pick := func(n int) int {
			if len(b) == 0 {
				return 0
			}
			x := int(b[0]) % n
			b = b[1:]
			return x
		}
		var l []api.Edit
		for len(b) > 0 && len(l) < 20 {
			l = append(l, anEdit(pick))
		}
		wantModelPut(t, l)
	})
}
