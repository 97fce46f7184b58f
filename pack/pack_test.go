package pack_test

import (
	"bytes"
	"math"
	"math/rand"
	"slices"
	"strconv"
	"strings"
	"testing"

	"tollbar/api"
	"tollbar/pack"
	"tollbar/parser"
	"tollbar/tlv"
	"tollbar/tree"
	"tollbar/valid"
	"tollbar/varint"
)

// The calls of the chapter, with just these signatures.
var (
	_ func(int, api.Node) []tlv.Item          = pack.Items
	_ func(int, api.Node) ([]byte, api.Errno) = pack.Bytes
)

// fullText is a configuration with all that version 3 has.
const fullText = `version 3;
system s-1;
wait 1000;
port a {
  up true;
  class be { quantum 1500; rate 1k; burst 3000; depth 8; shaped true; }
  class gold { quantum 100000; rate 0; burst 1000000; depth 64; shaped false; }
  class idle { quantum 65536; rate 255; burst 4096; depth 1; shaped true; }
  rule r { low 10; high 19; class gold; }
  rule s { low 0; high 65535; class idle; }
  default be;
  kind core;
}
port b { class x { quantum 1501; rate 2k; burst 1502; depth 3; shaped true; } default x; }
`

// turned is a text of version 3 as one of a version, without what that hasn't.
func turned(version int, text string) string {
	if version < 3 {
		text = strings.NewReplacer("version 3;", "version 2;", "depth", "limit", "wait 1000;", "").Replace(text)
	}
	if version < 2 {
		text = strings.NewReplacer("version 2;", "version 1;", "shaped true;", "", "shaped false;", "", "kind core;", "", "kind lab;", "").Replace(text)
	}
	return text
}

// parsed is the tree of a text.
func parsed(t *testing.T, text string) api.Node {
	t.Helper()
	_, n, err, at := parser.Parse(text)
	if err != api.OK {
		t.Fatalf("%d at %v in %s", err, at, text)
	}
	return n
}

// full is a valid tree with all that a version has, made anew for each call.
func full(t *testing.T, version int) api.Node {
	t.Helper()
	return parsed(t, turned(version, fullText))
}

// wide is the valid tree of a version whose bytes are the most: as many of each as may be, all values the greatest ones and all names the longest.
func wide(t *testing.T, version int) api.Node {
	t.Helper()
	long := func(c string, i int) string { return c + "-0123456" + strconv.Itoa(1000 + i)[1:] }
	n := api.Node{Kids: parsed(t, turned(version, "version 3; system abcdefghijkl; wait 1000;")).Kids}
	for p := range api.MaxPorts {
		// Text of all ports is more than the parser takes.
		var b strings.Builder
		b.WriteString("version 3; port " + long("p", p) + " { up true; kind lab; default " + long("c", 0) + "; ")
		for c := range api.MaxClasses {
			b.WriteString("class " + long("c", c) + " { quantum 100000; rate 1000000; burst 1000000; depth 64; shaped true; } ")
		}
		for r := range api.MaxRules {
			b.WriteString("rule " + long("r", r) + " { low 65535; high 65534; class " + long("c", r%api.MaxClasses) + "; } ")
		}
		n.Kids = append(n.Kids, parsed(t, turned(version, b.String()+"}")).Kids...)
	}
	return tree.Sorted(n)
}

// versions calls for each version that there is.
func versions(call func(version int)) {
	for version := 1; version <= 3; version++ {
		call(version)
	}
}

// at is the node at a way in a tree, where it stands: steps with a / between two, each a name, or a name and a key in brackets.
func at(n *api.Node, way string) *api.Node {
	if way == "" {
		return n
	}
	for part := range strings.SplitSeq(way, "/") {
		name, key, _ := strings.Cut(strings.TrimSuffix(part, "]"), "[")
		n = &n.Kids[slices.IndexFunc(n.Kids, func(kid api.Node) bool { return kid.Name == name && kid.Key == key })]
	}
	return n
}

// spots is all nodes of a tree, where they stand.
func spots(n *api.Node) []*api.Node {
	l := []*api.Node{n}
	for i := range n.Kids {
		l = append(l, spots(&n.Kids[i])...)
	}
	return l
}

func data(tag uint64, b ...byte) tlv.Item { return tlv.Item{Tag: tag, Data: b} }

// item is that of a list's item.
func item(tag uint64, key string, l ...tlv.Item) tlv.Item {
	return tlv.Item{Tag: tag, Kids: append([]tlv.Item{data(0, []byte(key)...)}, l...)}
}

func same(a, b []tlv.Item) bool {
	return slices.EqualFunc(a, b, func(a, b tlv.Item) bool {
		return a.Tag == b.Tag && bytes.Equal(a.Data, b.Data) && same(a.Kids, b.Kids)
	})
}

// row is a kid as the schema's chapter has it: its name, its tag, what kind its value is, and the rows of a list.
type row struct {
	name string
	tag  uint64
	kind int
	kids []row
}

// rows is those of a version, by hand.
func rows(version int) []row {
	limit := "limit"
	if version == 3 {
		limit = "depth"
	}
	class := []row{{"quantum", 2, api.Uint, nil}, {"rate", 4, api.Rate, nil}, {"burst", 6, api.Uint, nil}, {limit, 8, api.Uint, nil}}
	rule := []row{{"low", 2, api.Uint, nil}, {"high", 4, api.Uint, nil}, {"class", 6, api.Ref, nil}}
	if version > 1 {
		class = append(class, row{"shaped", 10, api.Bool, nil})
	}
	port := []row{{"up", 2, api.Bool, nil}, {"class", 5, api.None, class}, {"rule", 7, api.None, rule}, {"default", 8, api.Ref, nil}}
	if version > 1 {
		port = append(port, row{"kind", 10, api.Enum, nil})
	}
	root := []row{{"system", 2, api.Ident, nil}, {"port", 5, api.None, port}}
	if version > 2 {
		root = append(root, row{"wait", 6, api.Uint, nil})
	}
	return root
}

// kinds is the names of the schema's one Enum.
func kinds() []string { return []string{"edge", "core", "lab"} }

// bytesOf is a value as bytes.
func bytesOf(v api.Val) []byte {
	switch v.Kind {
	case api.Bool:
		return []byte{byte(v.Num)}
	case api.Enum:
		return []byte{byte(slices.Index(kinds(), v.Text))}
	case api.Ident, api.Ref:
		return []byte(v.Text)
	}
	var b []byte
	for x := v.Num; x > 0; x /= 256 {
		b = append([]byte{byte(x)}, b...)
	}
	return b
}

// model is the items of the kids of a node that some rows are of.
func model(l []row, n api.Node) []tlv.Item {
	var out []tlv.Item
	for _, r := range l {
		for _, kid := range n.Kids {
			switch {
			case kid.Name != r.name:
			case r.kids == nil:
				out = append(out, data(r.tag, bytesOf(kid.Val)...))
			default:
				out = append(out, item(r.tag, kid.Key, model(r.kids, kid)...))
			}
		}
	}
	return out
}

// put is items as bytes; none of them is longer than a varint of three bytes tells.
func put(l []tlv.Item) []byte {
	var b []byte
	for _, item := range l {
		content := item.Data
		if item.Tag%2 == 1 {
			content = put(item.Kids)
		}
		b = append(b, byte(item.Tag))
		size := len(content)
		for ; size > 127; size /= 128 {
			b = append(b, byte(size%128+128))
		}
		b = append(append(b, byte(size)), content...)
	}
	return b
}

// valOf is a value that has been read back from its bytes.
func valOf(kind int, b []byte) api.Val {
	switch kind {
	case api.Enum:
		return api.Val{Kind: kind, Text: kinds()[b[0]]}
	case api.Ident, api.Ref:
		return api.Val{Kind: kind, Text: string(b)}
	}
	var x uint64
	for _, c := range b {
		x = x*256 + uint64(c)
	}
	return api.Val{Kind: kind, Num: x}
}

// read is kids that have been read back from their items.
func read(l []row, items []tlv.Item) []api.Node {
	var out []api.Node
	for _, item := range items {
		r := l[slices.IndexFunc(l, func(r row) bool { return r.tag == item.Tag })]
		if r.kids == nil {
			out = append(out, api.Node{Name: r.name, Val: valOf(r.kind, item.Data)})
		} else {
			out = append(out, api.Node{Name: r.name, Key: string(item.Kids[0].Data), Kids: read(r.kids, item.Kids[1:])})
		}
	}
	return out
}

// wantForm has each item be a leaf's, a list item's or, at the beginning of the latter, a key.
func wantForm(t *testing.T, l []tlv.Item, inItem bool) {
	t.Helper()
	for i, item := range l {
		switch {
		case item.Tag%2 == 0 && len(item.Kids) == 0 && (item.Tag == 0) == (inItem && i == 0):
		case item.Tag%2 == 1 && len(item.Data) == 0 && len(item.Kids) > 0 && item.Kids[0].Tag == 0:
			wantForm(t, item.Kids, true)
		default:
			t.Errorf("item %d is %v", i, item)
		}
	}
}

// wantPacked holds a valid tree against all that is said of its items and bytes.
func wantPacked(t *testing.T, version int, n api.Node) {
	t.Helper()
	if err, way := valid.Check(version, n); err != api.OK {
		t.Fatalf("version %d: %d at %v of %v", version, err, way, n)
	}
	want := model(rows(version), n)
	items := pack.Items(version, n)
	if !same(items, want) {
		t.Fatalf("Items(%d, %v) = %v, not %v", version, n, items, want)
	}
	wantForm(t, items, false)
	b, err := pack.Bytes(version, n)
	if err != api.OK || !bytes.Equal(b, append([]byte{byte(version)}, put(want)...)) {
		t.Fatalf("Bytes(%d, %v) = %v, %d, not those of %v", version, n, b, err, want)
	}
	x, size, err := varint.Get(b)
	if err != api.OK || x != uint64(version) || !bytes.Equal(b[:size], varint.Put(uint64(version))) {
		t.Fatalf("the version of %v is %d, %d", b, x, err)
	}
	got, err, _ := tlv.Get(b[size:])
	if err != api.OK || !same(got, items) {
		t.Fatalf("%v, %d, not %v", got, err, items)
	}
	if back := tree.Sorted(api.Node{Kids: read(rows(version), got)}); !tree.Same(back, n) {
		t.Fatalf("%v is read back as %v", n, back)
	}
}

// wantBytes has a text be just these bytes.
func wantBytes(t *testing.T, text string, want ...byte) {
	t.Helper()
	version := int(text[len("version ")] - '0')
	n := parsed(t, text)
	wantPacked(t, version, n)
	if b, err := pack.Bytes(version, n); err != api.OK || !bytes.Equal(b, want) {
		t.Errorf("%s: %v, %d, not %v", text, b, err, want)
	}
}

// wantNone has a tree have no items and no bytes.
func wantNone(t *testing.T, version int, n api.Node, want api.Errno) {
	t.Helper()
	if l := pack.Items(version, n); len(l) != 0 {
		t.Errorf("Items(%d, %v) = %v", version, n, l)
	}
	if b, err := pack.Bytes(version, n); err != want || len(b) != 0 {
		t.Errorf("Bytes(%d, %v) = %v, %d, not %d", version, n, b, err, want)
	}
}

func TestExamples(t *testing.T) { // P13.1, P13.2
	wantBytes(t, "version 3; system ab;", 3, 2, 2, 97, 98)
	if l := pack.Items(3, parsed(t, "version 3; system ab;")); !same(l, []tlv.Item{data(2, 'a', 'b')}) {
		t.Error(l)
	}
	wantBytes(t, `version 3;
port a {
  class be {
    burst 3000;
    depth 8;
    quantum 1500;
    rate 1k;
    shaped true;
  }
  class gold {
    burst 3000;
    depth 4;
    quantum 3000;
    rate 0;
    shaped false;
  }
  default be;
  rule r {
    class gold;
    high 19;
    low 10;
  }
}
`,
		3,
		5, 72, 0, 1, 'a',
		5, 22, 0, 2, 'b', 'e', 2, 2, 5, 220, 4, 2, 3, 232, 6, 2, 11, 184, 8, 1, 8, 10, 1, 1,
		5, 22, 0, 4, 'g', 'o', 'l', 'd', 2, 2, 11, 184, 4, 0, 6, 2, 11, 184, 8, 1, 4, 10, 1, 0,
		7, 15, 0, 1, 'r', 2, 1, 10, 4, 1, 19, 6, 4, 'g', 'o', 'l', 'd',
		8, 2, 'b', 'e')
}

func TestSmall(t *testing.T) { // P13.1, P13.2
	wantBytes(t, "version 1; system ab;", 1, 2, 2, 'a', 'b')
	wantBytes(t, "version 2; system ab;", 2, 2, 2, 'a', 'b')
	wantBytes(t, "version 3; wait 5;", 3, 6, 1, 5)
	wantBytes(t, "version 3; wait 256; system z;", 3, 2, 1, 'z', 6, 2, 1, 0)
	wantBytes(t, "version 1; port b { default x; class x { quantum 1500; rate 0; burst 1500; limit 1; } }",
		1, 5, 24, 0, 1, 'b', 5, 16, 0, 1, 'x', 2, 2, 5, 220, 4, 0, 6, 2, 5, 220, 8, 1, 1, 8, 1, 'x')
	wantBytes(t, "version 2; port b { kind lab; up false; default x; class x { quantum 1500; rate 1; burst 1500; limit 1; shaped true; } }",
		2, 5, 34, 0, 1, 'b', 2, 1, 0, 5, 20, 0, 1, 'x', 2, 2, 5, 220, 4, 1, 1, 6, 2, 5, 220, 8, 1, 1, 10, 1, 1, 8, 1, 'x', 10, 1, 2)
	// A length of more than one byte.
	long := "version 1; port b { default x; class x { quantum 1500; rate 0; burst 1500; limit 1; } "
	want := []byte{0, 1, 'b', 5, 16, 0, 1, 'x', 2, 2, 5, 220, 4, 0, 6, 2, 5, 220, 8, 1, 1}
	for _, key := range "abcdefgh" {
		long += "rule " + string(key) + " { low 1; high 2; class x; } "
		want = append(want, 7, 12, 0, 1, byte(key), 2, 1, 1, 4, 1, 2, 6, 1, 'x')
	}
	want = append(want, 8, 1, 'x')
	wantBytes(t, long+"}", append([]byte{1, 5, byte(len(want)%128 + 128), 1}, want...)...)
}

func TestEmptyRoot(t *testing.T) { // P13.1, P13.2
	for _, n := range []api.Node{{}, {Kids: []api.Node{}}, {Kids: make([]api.Node, 0, 4)}} {
		versions(func(version int) {
			if l := pack.Items(version, n); len(l) != 0 {
				t.Errorf("version %d: %v", version, l)
			}
			if b, err := pack.Bytes(version, n); err != api.OK || !bytes.Equal(b, []byte{byte(version)}) {
				t.Errorf("version %d: %v, %d", version, b, err)
			}
			wantPacked(t, version, n)
		})
	}
}

func TestNoVersion(t *testing.T) { // P13.1, P13.2
	for _, version := range []int{math.MinInt, math.MinInt32, -3, -2, -1, 0, 4, 5, 10, 255, 257, 1<<16 + 1, 1<<32 + 1, 1<<32 + 3, math.MaxInt} {
		for _, n := range []api.Node{{}, {Name: "x"}, full(t, 1), full(t, 2), full(t, 3), parsed(t, "version 1; system s;")} {
			wantNone(t, version, n, api.Version)
		}
	}
}

// TestOtherVersion has trees that are valid in another version alone.
func TestOtherVersion(t *testing.T) { // P13.1, P13.2
	for _, x := range []struct {
		from, to int
		err      api.Errno
	}{{1, 2, api.ErrLack}, {1, 3, api.ErrName}, {2, 1, api.ErrName}, {2, 3, api.ErrName}, {3, 1, api.ErrName}, {3, 2, api.ErrName}} {
		wantNone(t, x.to, full(t, x.from), x.err)
		wantNone(t, x.to, wide(t, x.from), x.err)
	}
	wait := parsed(t, "version 3; wait 5;")
	wantNone(t, 1, wait, api.ErrName)
	wantNone(t, 2, wait, api.ErrName)
	wantNone(t, 3, parsed(t, "version 1; port a { class c { quantum 1500; rate 0; burst 1500; limit 1; } default c; }"), api.ErrName)
}

// change is what is done to a node of full, so that the tree may no longer be.
type change struct {
	way string
	to  func(n *api.Node)
	err api.Errno
}

// cut is without the kids of a name.
func cut(name string) func(*api.Node) {
	return func(n *api.Node) {
		n.Kids = slices.DeleteFunc(n.Kids, func(kid api.Node) bool { return kid.Name == name })
	}
}

func val(kind int, num uint64, text string) func(*api.Node) {
	return func(n *api.Node) { n.Val = api.Val{Kind: kind, Num: num, Text: text} }
}

func key(s string) func(*api.Node) { return func(n *api.Node) { n.Key = s } }

func name(s string) func(*api.Node) { return func(n *api.Node) { n.Name = s } }

func reversed(n *api.Node) { slices.Reverse(n.Kids) }

func emptied(n *api.Node) { n.Kids = nil }

func more(kid api.Node) func(*api.Node) {
	return func(n *api.Node) { n.Kids = append(n.Kids, kid) }
}

func wrong(version int) []change {
	limit := rows(version)[1].kids[1].kids[3].name
	l := []change{
		// A root that has more than kids, and kids out of order.
		{"", name("x"), api.ErrArg},
		{"", key("x"), api.ErrArg},
		{"", val(api.Ident, 0, "x"), api.ErrArg},
		{"", val(api.None, 1, ""), api.ErrArg},
		{"", val(api.None, 0, "x"), api.ErrArg},
		{"", reversed, api.ErrArg},
		{"port[a]", reversed, api.ErrArg},
		{"port[a]/class[gold]", reversed, api.ErrArg},
		{"port[a]/rule[s]", reversed, api.ErrArg},
		{"port[a]", func(n *api.Node) { n.Kids[0], n.Kids[1] = n.Kids[1], n.Kids[0] }, api.ErrArg},
		{"port[a]", func(n *api.Node) { n.Kids[1] = n.Kids[0] }, api.ErrArg},
		{"system", more(api.Node{Name: "x"}), api.ErrArg},
		{"port[b]", val(api.Bool, 1, ""), api.ErrArg},
		// A name that there isn't.
		{"system", name("t"), api.ErrName},
		{"port[b]", more(api.Node{Name: "x"}), api.ErrName},
		{"port[b]/class[x]/" + limit, name("d"), api.ErrName},
		{"port[b]/class[x]", name("box"), api.ErrName},
		// A value or a key that may not be.
		{"port[a]/class[be]/quantum", val(api.Uint, 1499, ""), api.ErrValue},
		{"port[a]/class[be]/quantum", val(api.Uint, 100001, ""), api.ErrValue},
		{"port[a]/class[be]/quantum", val(api.Rate, 1500, ""), api.ErrValue},
		{"port[a]/class[be]/rate", val(api.Rate, 1000001, ""), api.ErrValue},
		{"port[a]/class[be]/rate", val(api.Rate, 1000, "1k"), api.ErrValue},
		{"port[a]/class[be]/burst", val(api.Uint, 1499, ""), api.ErrValue},
		{"port[a]/class[be]/burst", val(api.Uint, 1000001, ""), api.ErrValue},
		{"port[a]/class[be]/" + limit, val(api.Uint, 0, ""), api.ErrValue},
		{"port[a]/class[be]/" + limit, val(api.Uint, 65, ""), api.ErrValue},
		{"port[a]/rule[r]/low", val(api.Uint, 65536, ""), api.ErrValue},
		{"port[a]/rule[r]/high", val(api.Uint, 65536, ""), api.ErrValue},
		{"port[a]/up", val(api.Bool, 2, ""), api.ErrValue},
		{"port[a]/up", val(api.None, 0, ""), api.ErrValue},
		{"port[a]/up", val(7, 1, ""), api.ErrValue},
		{"port[a]/up", val(-1, 1, ""), api.ErrValue},
		{"port[a]/default", val(api.Ident, 0, "be"), api.ErrValue},
		{"port[a]/default", val(api.Ref, 0, "Be"), api.ErrValue},
		{"system", val(api.Ident, 0, ""), api.ErrValue},
		{"system", val(api.Ident, 0, "aaaaaaaaaaaaa"), api.ErrValue},
		{"system", key("s"), api.ErrValue},
		{"port[b]", key(""), api.ErrArg}, // it stands behind port[a]
		{"port[a]", key(""), api.ErrValue},
		{"port[b]", key("b b"), api.ErrValue},
		{"port[b]", key("bbbbbbbbbbbbb"), api.ErrValue},
		// What must be there isn't.
		{"port[a]", cut("default"), api.ErrLack},
		{"port[a]/class[be]", cut("quantum"), api.ErrLack},
		{"port[a]/class[be]", cut("rate"), api.ErrLack},
		{"port[a]/class[be]", cut("burst"), api.ErrLack},
		{"port[a]/class[be]", cut(limit), api.ErrLack},
		{"port[a]/rule[s]", cut("low"), api.ErrLack},
		{"port[a]/rule[s]", cut("high"), api.ErrLack},
		{"port[a]/rule[s]", cut("class"), api.ErrLack},
		{"port[a]/class[be]", emptied, api.ErrLack},
		{"port[a]/rule[s]", emptied, api.ErrLack},
		{"port[b]", emptied, api.ErrLack},
		// A class that there isn't.
		{"port[a]/default", val(api.Ref, 0, "none"), api.ErrRef},
		{"port[b]/default", val(api.Ref, 0, "be"), api.ErrRef},
		{"port[a]/rule[s]/class", val(api.Ref, 0, "x"), api.ErrRef},
		{"port[a]/class[idle]", key("idles"), api.ErrRef},
		{"port[b]", cut("class"), api.ErrRef},
	}
	if version > 1 {
		l = append(l,
			change{"port[a]/class[be]", cut("shaped"), api.ErrLack},
			change{"port[a]/class[be]/shaped", val(api.Bool, 2, ""), api.ErrValue},
			change{"port[a]/kind", val(api.Enum, 0, "none"), api.ErrValue},
			change{"port[a]/kind", val(api.Enum, 0, ""), api.ErrValue},
			change{"port[a]/kind", val(api.Ident, 0, "core"), api.ErrValue})
	}
	if version > 2 {
		l = append(l,
			change{"wait", val(api.Uint, 0, ""), api.ErrValue},
			change{"wait", val(api.Uint, 1001, ""), api.ErrValue})
	}
	return l
}

func TestNoTree(t *testing.T) { // P13.1, P13.2
	versions(func(version int) {
		for i, x := range wrong(version) {
			n := full(t, version)
			x.to(at(&n, x.way))
			if err, _ := valid.Check(version, n); err != x.err {
				t.Errorf("version %d, %d: Check tells %d, not %d, at %s", version, i, err, x.err, x.way)
			}
			wantNone(t, version, n, x.err)
		}
	})
}

func TestTooManyOfAList(t *testing.T) { // P13.1, P13.2
	versions(func(version int) {
		for _, way := range []string{"", "port[p-0123456000]"} {
			for _, last := range []string{"port", "class", "rule"} {
				n := wide(t, version)
				box := at(&n, way)
				i := slices.IndexFunc(box.Kids, func(kid api.Node) bool { return kid.Name == last })
				if i < 0 {
					continue
				}
				kid := box.Kids[i]
				kid.Key = "z"
				box.Kids = append(box.Kids, kid)
				wantNone(t, version, tree.Sorted(n), api.ErrMany)
			}
		}
	})
}

// itemAt is the item at steps with a / between two, each a tag, or a tag and a key in brackets.
func itemAt(t *testing.T, l []tlv.Item, steps string) tlv.Item {
	t.Helper()
	var found tlv.Item
	for part := range strings.SplitSeq(steps, "/") {
		tag, key, is := strings.Cut(strings.TrimSuffix(part, "]"), "[")
		i := slices.IndexFunc(l, func(item tlv.Item) bool {
			return strconv.FormatUint(item.Tag, 10) == tag && (!is || string(item.Kids[0].Data) == key)
		})
		if i < 0 {
			t.Fatalf("no %s in %v", steps, l)
		}
		found, l = l[i], l[i].Kids
	}
	return found
}

func TestLeaves(t *testing.T) { // P13.1
	whole := func(n uint64) api.Val { return api.Val{Kind: api.Uint, Num: n} }
	rate := func(n uint64) api.Val { return api.Val{Kind: api.Rate, Num: n} }
	flag := func(n uint64) api.Val { return api.Val{Kind: api.Bool, Num: n} }
	text := func(kind int, s string) api.Val { return api.Val{Kind: kind, Text: s} }
	limit := func(version int) string { return rows(version)[1].kids[1].kids[3].name }
	for _, x := range []struct {
		way   string
		steps string
		v     api.Val
		from  int
		want  string
	}{
		{"port[a]/class[be]/quantum", "5[a]/5[be]/2", whole(1500), 1, "\x05\xdc"},
		{"port[a]/class[be]/quantum", "5[a]/5[be]/2", whole(65535), 1, "\xff\xff"},
		{"port[a]/class[be]/quantum", "5[a]/5[be]/2", whole(65536), 1, "\x01\x00\x00"},
		{"port[a]/class[be]/quantum", "5[a]/5[be]/2", whole(100000), 1, "\x01\x86\xa0"},
		{"port[a]/class[gold]/rate", "5[a]/5[gold]/4", rate(0), 1, ""},
		{"port[a]/class[gold]/rate", "5[a]/5[gold]/4", rate(1), 1, "\x01"},
		{"port[a]/class[gold]/rate", "5[a]/5[gold]/4", rate(255), 1, "\xff"},
		{"port[a]/class[gold]/rate", "5[a]/5[gold]/4", rate(256), 1, "\x01\x00"},
		{"port[a]/class[gold]/rate", "5[a]/5[gold]/4", rate(1000000), 1, "\x0f\x42\x40"},
		{"port[b]/class[x]/burst", "5[b]/5[x]/6", whole(1500), 1, "\x05\xdc"},
		{"port[b]/class[x]/burst", "5[b]/5[x]/6", whole(1000000), 1, "\x0f\x42\x40"},
		{"port[b]/class[x]/LIMIT", "5[b]/5[x]/8", whole(1), 1, "\x01"},
		{"port[b]/class[x]/LIMIT", "5[b]/5[x]/8", whole(64), 1, "\x40"},
		{"port[a]/class[be]/shaped", "5[a]/5[be]/10", flag(0), 2, "\x00"},
		{"port[a]/class[be]/shaped", "5[a]/5[be]/10", flag(1), 2, "\x01"},
		{"port[a]/rule[r]/low", "5[a]/7[r]/2", whole(0), 1, ""},
		{"port[a]/rule[r]/low", "5[a]/7[r]/2", whole(65535), 1, "\xff\xff"},
		{"port[a]/rule[r]/high", "5[a]/7[r]/4", whole(0), 1, ""},
		{"port[a]/rule[r]/high", "5[a]/7[r]/4", whole(65535), 1, "\xff\xff"},
		{"port[a]/rule[s]/class", "5[a]/7[s]/6", text(api.Ref, "be"), 1, "be"},
		{"port[a]/rule[s]/class", "5[a]/7[s]/6", text(api.Ref, "gold"), 1, "gold"},
		{"port[a]/up", "5[a]/2", flag(0), 1, "\x00"},
		{"port[a]/up", "5[a]/2", flag(1), 1, "\x01"},
		{"port[a]/default", "5[a]/8", text(api.Ref, "idle"), 1, "idle"},
		{"port[a]/kind", "5[a]/10", text(api.Enum, "edge"), 2, "\x00"},
		{"port[a]/kind", "5[a]/10", text(api.Enum, "core"), 2, "\x01"},
		{"port[a]/kind", "5[a]/10", text(api.Enum, "lab"), 2, "\x02"},
		{"system", "2", text(api.Ident, "a"), 1, "a"},
		{"system", "2", text(api.Ident, "z-0123456789"), 1, "z-0123456789"},
		{"wait", "6", whole(1), 3, "\x01"},
		{"wait", "6", whole(1000), 3, "\x03\xe8"},
	} {
		for version := x.from; version <= 3; version++ {
			n := full(t, version)
			at(&n, strings.Replace(x.way, "LIMIT", limit(version), 1)).Val = x.v
			wantPacked(t, version, n)
			got := itemAt(t, pack.Items(version, n), x.steps)
			if string(got.Data) != x.want || len(got.Kids) != 0 {
				t.Errorf("version %d: the item of %s = %v is %v", version, x.way, x.v, got)
			}
		}
	}
}

func TestListItems(t *testing.T) { // P13.1
	keys := []string{"a", "a-", "k9", "class", "port-1", "aaaaaaaaaaaa", "z-0123456789"}
	versions(func(version int) {
		for _, x := range []struct{ way, steps string }{
			{"port[b]", "5"}, {"port[b]/class[x]", "5/5"}, {"port[b]/rule[r]", "5/7"},
		} {
			for _, s := range keys {
				n := parsed(t, turned(version, "version 3; port b { up true; rule r { low 1; high 2; class y; } class x { quantum 1500; rate 1; burst 1500; depth 1; shaped true; } class y { quantum 1500; rate 1; burst 1500; depth 1; shaped true; } default y; }"))
				kid := at(&n, x.way)
				kid.Key = s
				count := len(kid.Kids)
				if kid.Name == "class" {
					n = tree.Sorted(n)
				}
				wantPacked(t, version, n)
				steps := x.steps + "[" + s + "]"
				got := itemAt(t, pack.Items(version, n), steps)
				if first := got.Kids[0]; first.Tag != 0 || string(first.Data) != s || len(first.Kids) != 0 {
					t.Errorf("version %d, %s: the key is %v", version, steps, first)
				}
				if len(got.Data) != 0 || len(got.Kids) != 1+count {
					t.Errorf("version %d, %s: %v", version, steps, got)
				}
			}
		}
	})
}

// fullItems is those of full, by hand.
func fullItems(version int) []tlv.Item {
	since := func(first int, l []tlv.Item, behind tlv.Item) []tlv.Item {
		if version < first {
			return l
		}
		return append(l, behind)
	}
	class := func(key string, shaped byte, quantum, rate, burst string, limit byte) tlv.Item {
		l := []tlv.Item{data(2, []byte(quantum)...), data(4, []byte(rate)...), data(6, []byte(burst)...), data(8, limit)}
		return item(5, key, since(2, l, data(10, shaped))...)
	}
	rule := func(key string, low, high, class string) tlv.Item {
		return item(7, key, data(2, []byte(low)...), data(4, []byte(high)...), data(6, []byte(class)...))
	}
	a := []tlv.Item{
		data(2, 1),
		class("be", 1, "\x05\xdc", "\x03\xe8", "\x0b\xb8", 8),
		class("gold", 0, "\x01\x86\xa0", "", "\x0f\x42\x40", 64),
		class("idle", 1, "\x01\x00\x00", "\xff", "\x10\x00", 1),
		rule("r", "\x0a", "\x13", "gold"),
		rule("s", "", "\xff\xff", "idle"),
		data(8, 'b', 'e'),
	}
	b := []tlv.Item{class("x", 1, "\x05\xdd", "\x07\xd0", "\x05\xde", 3), data(8, 'x')}
	root := []tlv.Item{data(2, 's', '-', '1'), item(5, "a", since(2, a, data(10, 1))...), item(5, "b", b...)}
	return since(3, root, data(6, 3, 232))
}

func TestFull(t *testing.T) { // P13.1, P13.2
	versions(func(version int) {
		n, want := full(t, version), fullItems(version)
		wantPacked(t, version, n)
		if l := pack.Items(version, n); !same(l, want) {
			t.Errorf("version %d: %v, not %v", version, l, want)
		}
		if b, err := pack.Bytes(version, n); err != api.OK || !bytes.Equal(b, append([]byte{byte(version)}, put(want)...)) {
			t.Errorf("version %d: %v, %d", version, b, err)
		}
	})
}

// tagsOf is the tags of items, and keys behind those of a list's items.
func tagsOf(l []tlv.Item) string {
	var out []string
	for _, item := range l {
		s := strconv.FormatUint(item.Tag, 10)
		if len(item.Kids) > 0 {
			s += "[" + string(item.Kids[0].Data) + "]"
		}
		out = append(out, s)
	}
	return strings.Join(out, " ")
}

func wantTags(t *testing.T, l []tlv.Item, want string) {
	t.Helper()
	if got := tagsOf(l); got != want {
		t.Errorf("%s, not %s", got, want)
	}
}

// TestOrder: names stand in another order than the schema's, and one list's items in that of their keys.
func TestOrder(t *testing.T) { // P13.1
	const class = " { shaped true; depth 1; burst 1500; rate 1; quantum 1500; } "
	text := "version 3; wait 1000; system s; "
	for _, port := range []string{"b", "a0", "a-a", "a"} {
		text += "port " + port + " { up true; kind core; default k1; "
		for _, key := range []string{"k10", "k2", "k", "kk", "k-", "k1", "k--1"} {
			text += "class " + key + class + "rule " + key + " { low 1; high 2; class k1; } "
		}
		text += "} "
	}
	versions(func(version int) {
		n := parsed(t, turned(version, text))
		wantPacked(t, version, n)
		l := pack.Items(version, n)
		wantTags(t, l, "2 5[a] 5[a-a] 5[a0] 5[b]"+[]string{"", "", " 6"}[version-1])
		for _, port := range []string{"a", "a-a", "a0", "b"} {
			within := itemAt(t, l, "5["+port+"]").Kids
			wantTags(t, within, "0 2 5[k] 5[k-] 5[k--1] 5[k1] 5[k10] 5[k2] 5[kk] 7[k] 7[k-] 7[k--1] 7[k1] 7[k10] 7[k2] 7[kk] 8"+[]string{"", " 10", " 10"}[version-1])
			for _, item := range within {
				switch item.Tag {
				case 5:
					wantTags(t, item.Kids, "0 2 4 6 8"+[]string{"", " 10", " 10"}[version-1])
				case 7:
					wantTags(t, item.Kids, "0 2 4 6")
				}
			}
		}
	})
}

// TestWide has the trees with the most bytes, which are fewer than are let.
func TestWide(t *testing.T) { // P13.1, P13.2
	versions(func(version int) {
		size := []int{3670, 3778, 3782}[version-1]
		n := wide(t, version)
		wantPacked(t, version, n)
		b, err := pack.Bytes(version, n)
		if err != api.OK || len(b) != 1+size || tlv.Size(pack.Items(version, n)) != size {
			t.Errorf("version %d: %d bytes, %d, and items of %d", version, len(b), err, tlv.Size(pack.Items(version, n)))
		}
		l := pack.Items(version, n)
		ports := slices.DeleteFunc(l, func(item tlv.Item) bool { return item.Tag != 5 })
		if len(ports) != api.MaxPorts {
			t.Errorf("version %d: %d ports", version, len(ports))
		}
		for _, port := range ports {
			count := map[uint64]int{}
			for _, item := range port.Kids {
				count[item.Tag]++
			}
			if count[5] != api.MaxClasses || count[7] != api.MaxRules || count[0] != 1 || count[2] != 1 || count[8] != 1 || count[10] != min(version-1, 1) {
				t.Errorf("version %d: %v", version, count)
			}
		}
	})
}

// apart is valid trees of a version, each of which differs from full in one thing.
func apart(t *testing.T, version int) []api.Node {
	l := []api.Node{full(t, version)}
	other := full(t, version)
	for i, spot := range spots(new(full(t, version))) {
		changes := []func(n *api.Node){emptied}
		for _, s := range []string{spot.Key + "1", spot.Key + "-", "c"} {
			changes = append(changes, key(s))
		}
		for _, x := range []uint64{spot.Val.Num + 1, spot.Val.Num - 1, spot.Val.Num + 256, spot.Val.Num * 256, 0, 1} {
			changes = append(changes, func(n *api.Node) { n.Val.Num = x })
		}
		for _, s := range []string{"be", "gold", "idle", "x", "edge", "core", "lab", spot.Val.Text + "s"} {
			changes = append(changes, func(n *api.Node) { n.Val.Text = s })
		}
		for k := range spot.Kids {
			changes = append(changes, func(n *api.Node) { n.Kids = slices.Delete(n.Kids, k, k+1) })
		}
		for _, kid := range spots(&other) {
			twin := *kid
			twin.Key += "2"
			changes = append(changes, more(*kid), more(twin))
		}
		for _, c := range changes {
			n := full(t, version)
			c(spots(&n)[i])
			n = tree.Sorted(n)
			if valid.May(version, n) && !slices.ContainsFunc(l, func(x api.Node) bool { return tree.Same(x, n) }) {
				l = append(l, n)
			}
		}
	}
	return l
}

func TestApart(t *testing.T) { // P13.3
	had := map[string]api.Node{}
	versions(func(version int) {
		l := apart(t, version)
		if len(l) < 100 {
			t.Errorf("version %d: only %d trees", version, len(l))
		}
		for _, n := range l {
			wantPacked(t, version, n)
			b, err := pack.Bytes(version, n)
			if other, ok := had[string(b)]; ok || err != api.OK {
				t.Errorf("version %d: %v and %v have the bytes %v, %d", version, n, other, b, err)
			}
			had[string(b)] = n
			for range 2 {
				if again, err := pack.Bytes(version, tree.Sorted(n)); err != api.OK || !bytes.Equal(again, b) {
					t.Errorf("version %d: %v, not %v", version, again, b)
				}
			}
		}
	})
}

// TestApartVersions has trees that are valid in several versions, and ones that differ in their versions and in one Name.
func TestApartVersions(t *testing.T) { // P13.3
	for _, n := range []api.Node{{}, parsed(t, "version 1; system s;")} {
		had := map[string]int{}
		versions(func(version int) {
			b, err := pack.Bytes(version, n)
			had[string(b)]++
			if err != api.OK || len(b) == 0 || int(b[0]) != version {
				t.Errorf("version %d: %v, %d", version, b, err)
			}
		})
		if len(had) != 3 {
			t.Errorf("%v has only %d", n, len(had))
		}
	}
	const text = "version 3; port a { class c { quantum 1500; rate 1; burst 1500; depth 1; shaped true; } default c; }"
	two, _ := pack.Bytes(2, parsed(t, turned(2, text)))
	three, _ := pack.Bytes(3, parsed(t, text))
	if two[0] != 2 || three[0] != 3 || !bytes.Equal(two[1:], three[1:]) {
		t.Errorf("%v, %v", two, three)
	}
}

// TestAnyOrder has the parts of one configuration in two orders: the bytes are the same.
func TestAnyOrder(t *testing.T) { // P13.3
	one := parsed(t, "version 3; system s; port a { class c { quantum 1500; rate 1; burst 1500; depth 1; shaped true; } default c; } wait 1;")
	two := parsed(t, "version 3; wait 1; port a { default c; class c { shaped true; depth 1; rate 1; burst 1500; quantum 1500; } } system s;")
	a, _ := pack.Bytes(3, one)
	b, _ := pack.Bytes(3, two)
	if !bytes.Equal(a, b) || len(a) == 0 {
		t.Errorf("%v, %v", a, b)
	}
}

// vary changes a tree in one place, which it may be behind that or not.
func vary(r *rand.Rand, n *api.Node) {
	l := spots(n)
	spot := l[r.Intn(len(l))]
	text := []string{"be", "gold", "idle", "x", "edge", "core", "lab", "a", "none", "a-b", "A"}[r.Intn(11)]
	switch r.Intn(7) {
	case 0:
		spot.Key = text
	case 1:
		spot.Val.Num = uint64(r.Intn(1 << r.Intn(21)))
	case 2:
		spot.Val.Text = text
	case 3:
		spot.Val.Num = 1 - spot.Val.Num
	case 4:
		if len(spot.Kids) > 0 {
			k := r.Intn(len(spot.Kids))
			spot.Kids = slices.Delete(spot.Kids, k, k+1)
		}
	case 5:
		if len(spot.Kids) > 0 {
			kid := tree.Sorted(spot.Kids[r.Intn(len(spot.Kids))])
			kid.Key += string("abc019-"[r.Intn(7)])
			spot.Kids = append(spot.Kids, kid)
		}
	case 6:
		spot.Kids = append(spot.Kids, tree.Sorted(*l[r.Intn(len(l))]))
	}
}

// TestMany goes from tree to tree by one change each; what may be is packed, and all else isn't.
func TestMany(t *testing.T) { // P13.1, P13.2, P13.3
	r := rand.New(rand.NewSource(13))
	versions(func(version int) {
		had := map[string]api.Node{}
		n := wide(t, version)
		for i := range 3000 {
			if i%300 == 299 {
				n = full(t, version)
			}
			next := tree.Sorted(n)
			vary(r, &next)
			if r.Intn(8) > 0 {
				next = tree.Sorted(next)
			}
			if err, _ := valid.Check(version, next); err != api.OK {
				wantNone(t, version, next, err)
				continue
			}
			n = next
			wantPacked(t, version, n)
			b, _ := pack.Bytes(version, n)
			if old, ok := had[string(b)]; ok && !tree.Same(old, n) {
				t.Fatalf("version %d: %v and %v have the same bytes", version, old, n)
			}
			had[string(b)] = n
		}
		if len(had) < 200 {
			t.Errorf("version %d: only %d trees", version, len(had))
		}
	})
}

// TestVeryBig has trees that are deeper and wider than any valid one.
func TestVeryBig(t *testing.T) { // P13.1, P13.2
	deep := api.Node{Name: "port", Key: "a"}
	for range 1<<16 - 2 {
		deep = api.Node{Name: "port", Key: "a", Kids: []api.Node{deep}}
	}
	wide := api.Node{Kids: make([]api.Node, 1<<16)}
	for i := range wide.Kids {
		wide.Kids[i] = api.Node{Name: "port", Key: "k" + strconv.Itoa(1<<20+i)}
	}
	versions(func(version int) {
		wantBig := func(n api.Node, want api.Errno) {
			if b, err := pack.Bytes(version, n); err != want || len(b) != 0 || len(pack.Items(version, n)) != 0 {
				t.Errorf("version %d: %d bytes, %d, not %d", version, len(b), err, want)
			}
		}
		wantBig(api.Node{Kids: []api.Node{deep}}, api.ErrName)
		wantBig(wide, api.ErrLack)
		for i := range wide.Kids {
			wide.Kids[i].Name = "x"
		}
		wantBig(wide, api.ErrName)
		for i := range wide.Kids {
			wide.Kids[i].Name = "port"
		}
	})
}

// roomy is a copy of a tree, whose lists have room behind them, with something in it.
func roomy(n api.Node) api.Node {
	kids := make([]api.Node, 0, len(n.Kids)+2)
	for _, kid := range n.Kids {
		kids = append(kids, roomy(kid))
	}
	_ = append(kids, api.Node{Name: "spare"}, api.Node{Key: "spare"})
	n.Kids = kids
	return n
}

// sameWhole tells whether two trees are the same, with what is in the rooms behind their lists.
func sameWhole(a, b api.Node) bool {
	return a.Name == b.Name && a.Key == b.Key && a.Val == b.Val && len(a.Kids) == len(b.Kids) &&
		slices.EqualFunc(a.Kids[:cap(a.Kids)], b.Kids[:cap(b.Kids)], sameWhole)
}

func TestArguments(t *testing.T) { // P13.1, P13.2
	versions(func(version int) {
		l := []api.Node{{}, {Name: "x"}, full(t, version), wide(t, version)}
		for _, x := range wrong(version) {
			n := full(t, version)
			x.to(at(&n, x.way))
			l = append(l, n)
		}
		for _, n := range l {
			given, kept := roomy(n), roomy(n)
			for _, v := range []int{version, 4} {
				pack.Items(v, given)
				pack.Bytes(v, given)
			}
			if !sameWhole(given, kept) {
				t.Errorf("version %d: %v is now %v", version, kept, given)
			}
		}
	})
}

// rooms is all lists of items, and all bytes, that some items have, with the rooms behind them.
func rooms(l []tlv.Item) ([][]tlv.Item, [][]byte) {
	lists, rows := [][]tlv.Item{l[:cap(l)]}, [][]byte{}
	for _, item := range l {
		kids, datas := rooms(item.Kids)
		lists, rows = append(lists, kids...), append(rows, datas...)
		rows = append(rows, item.Data[:cap(item.Data)])
	}
	return lists, rows
}

func TestNewMemory(t *testing.T) { // P13.1, P13.2
	versions(func(version int) {
		given, kept := roomy(full(t, version)), roomy(full(t, version))
		want := pack.Items(version, given)
		wantBytes, _ := pack.Bytes(version, given)
		wantBytes = bytes.Clone(wantBytes)

		items := pack.Items(version, given)
		b, _ := pack.Bytes(version, given)
		again, _ := pack.Bytes(version, given)
		lists, rows := rooms(items)
		rows = append(rows, b[:cap(b)])
		for i, list := range lists {
			for k := range list {
				list[k] = tlv.Item{Tag: uint64(1000 + i)}
			}
		}
		for i, row := range rows {
			for k := range row {
				row[k] = byte(i)
			}
		}
		// No two of them are written over by one another.
		for i, list := range lists {
			if slices.ContainsFunc(list, func(item tlv.Item) bool { return item.Tag != uint64(1000+i) }) {
				t.Errorf("version %d: list %d is shared", version, i)
			}
		}
		for i, row := range rows {
			if slices.ContainsFunc(row, func(c byte) bool { return c != byte(i) }) {
				t.Errorf("version %d: row %d is shared", version, i)
			}
		}
		if !sameWhole(given, kept) {
			t.Errorf("version %d: the tree is now %v", version, given)
		}
		if !same(want, fullItems(version)) || !same(pack.Items(version, given), fullItems(version)) {
			t.Errorf("version %d: the items are others now", version)
		}
		if next, err := pack.Bytes(version, given); err != api.OK || !bytes.Equal(next, wantBytes) || !bytes.Equal(again, wantBytes) {
			t.Errorf("version %d: the bytes are others now", version)
		}
	})
}

// TestGivenLater: what was answered stays, whatever becomes of the tree.
func TestGivenLater(t *testing.T) { // P13.1, P13.2
	versions(func(version int) {
		n := full(t, version)
		items := pack.Items(version, n)
		b, _ := pack.Bytes(version, n)
		for _, spot := range spots(&n) {
			*spot = api.Node{Name: spot.Name + "x", Key: "y", Val: api.Val{Num: 7, Text: "z"}, Kids: spot.Kids}
		}
		if !same(items, fullItems(version)) || !bytes.Equal(b[1:], put(items)) {
			t.Errorf("version %d: %v, %v", version, items, b)
		}
	})
}

// TestTwice: what is answered hangs on nothing but what is given.
func TestTwice(t *testing.T) { // P13.1, P13.2, P13.3
	versions(func(version int) {
		for range 3 {
			other := 1 + version%3
			pack.Bytes(other, full(t, other))
			wantNone(t, version, api.Node{Name: "x"}, api.ErrArg)
			pack.Items(other, wide(t, other))
			if l := pack.Items(version, full(t, version)); !same(l, fullItems(version)) {
				t.Errorf("version %d: %v", version, l)
			}
			wantPacked(t, version, full(t, version))
		}
	})
}
