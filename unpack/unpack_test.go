package unpack_test

import (
	"bytes"
	"encoding/binary"
	"math"
	"math/rand"
	"regexp"
	"slices"
	"strconv"
	"strings"
	"testing"

	"tollbar/api"
	"tollbar/pack"
	"tollbar/parser"
	"tollbar/tlv"
	"tollbar/tree"
	"tollbar/unpack"
	"tollbar/valid"
	"tollbar/varint"
)

// The call of the chapter, with just this signature.
var _ func([]byte) (int, api.Node, api.Errno, int) = unpack.Tree

// fullText is a configuration with all that version 3 has.
const fullText = `version 3;
system s-1;
wait 1000;
port a {
  up true;
  class be { quantum 1500; rate 1k; burst 3000; depth 8; shaped true; }
  class gold { quantum 100000; rate 0; burst 1000000; depth 64; shaped false; }
  class idle { quantum 65536; rate 255; burst 4096; depth 1; shaped true; }
  rule r { low 10; high 19; class gold; }
  rule s { low 0; high 65535; class idle; }
  default be;
  kind core;
}
port b { class x { quantum 1501; rate 2k; burst 1502; depth 3; shaped true; } default x; }
`

// turned is a text of version 3 as one of a version, without what that hasn't.
func turned(version int, text string) string {
	if version < 3 {
		text = strings.NewReplacer("version 3;", "version 2;", "depth", "limit", "wait 1000;", "").Replace(text)
	}
	if version < 2 {
		text = strings.NewReplacer("version 2;", "version 1;", "shaped true;", "", "shaped false;", "", "kind core;", "", "kind lab;", "").Replace(text)
	}
	return text
}

// parsed is the tree of a text.
func parsed(t *testing.T, text string) api.Node {
	t.Helper()
	_, n, err, at := parser.Parse(text)
	if err != api.OK {
		t.Fatalf("%d at %v in %s", err, at, text)
	}
	return n
}

// full is a valid tree with all that a version has, made anew for each call.
func full(t *testing.T, version int) api.Node {
	t.Helper()
	return parsed(t, turned(version, fullText))
}

// wide is the valid tree of a version whose bytes are the most: as many of each as may be, all values the greatest ones and all names the longest.
func wide(t *testing.T, version int) api.Node {
	t.Helper()
	long := func(c string, i int) string { return c + "-0123456" + strconv.Itoa(1000 + i)[1:] }
	n := api.Node{Kids: parsed(t, turned(version, "version 3; system abcdefghijkl; wait 1000;")).Kids}
	for p := range api.MaxPorts {
		// Text of all ports is more than the parser takes.
		var b strings.Builder
		b.WriteString("version 3; port " + long("p", p) + " { up true; kind lab; default " + long("c", 0) + "; ")
		for c := range api.MaxClasses {
			b.WriteString("class " + long("c", c) + " { quantum 100000; rate 1000000; burst 1000000; depth 64; shaped true; } ")
		}
		for r := range api.MaxRules {
			b.WriteString("rule " + long("r", r) + " { low 65535; high 65534; class " + long("c", r%api.MaxClasses) + "; } ")
		}
		n.Kids = append(n.Kids, parsed(t, turned(version, b.String()+"}")).Kids...)
	}
	return tree.Sorted(n)
}

// versions calls for each version that there is.
func versions(call func(version int)) {
	for version := 1; version <= 3; version++ {
		call(version)
	}
}

// part is an item that needs not be right, and may be marked.
type part struct {
	tag    uint64
	data   []byte
	kids   []part
	marked bool
}

// notes is parts as text: each a tag, and behind it = and bytes (a text in ', or numbers with a comma between two), or parts in parentheses. A ^ ahead of a part marks it. Parentheses are closed at the end.
type notes struct{ left string }

func (in *notes) parts() []part {
	var l []part
	for {
		in.left = strings.TrimLeft(in.left, " \n\t")
		if in.left == "" {
			return l
		}
		if in.has(")") {
			return l
		}
		l = append(l, in.part())
	}
}

func (in *notes) part() part {
	var p part
	p.marked = in.has("^")
	p.tag = in.number()
	if in.has("(") {
		p.kids = in.parts()
		return p
	}
	if !in.has("=") {
		panic("no part at " + in.left)
	}
	if in.has("'") {
		text, rest, _ := strings.Cut(in.left, "'")
		p.data, in.left = []byte(text), rest
		return p
	}
	for in.left != "" && in.left[0] >= '0' && in.left[0] <= '9' {
		p.data = append(p.data, byte(in.number()))
		in.has(",")
	}
	return p
}

func (in *notes) has(sign string) bool {
	rest, ok := strings.CutPrefix(in.left, sign)
	in.left = rest
	return ok
}

func (in *notes) number() uint64 {
	size := 0
	for size < len(in.left) && in.left[size] >= '0' && in.left[size] <= '9' {
		size++
	}
	x, err := strconv.ParseUint(in.left[:size], 10, 64)
	if err != nil {
		panic("no number at " + in.left)
	}
	in.left = in.left[size:]
	return x
}

func noted(s string) []part {
	in := notes{left: s}
	l := in.parts()
	for in.left != "" {
		l = append(l, in.parts()...)
	}
	return l
}

// put is parts as bytes, and the offset of the last marked one; below 0: none is.
func put(l []part) ([]byte, int) {
	var b []byte
	mark := -1
	for _, p := range l {
		if p.marked {
			mark = len(b)
		}
		content, within := p.data, -1
		if p.tag%2 == 1 {
			content, within = put(p.kids)
		}
		b = binary.AppendUvarint(b, p.tag)
		b = binary.AppendUvarint(b, uint64(len(content)))
		if within >= 0 {
			mark = len(b) + within
		}
		b = append(b, content...)
	}
	return b, mark
}

// bytesOf is a version and noted parts as bytes, and the offset of the marked part.
func bytesOf(version int, s string) ([]byte, int) {
	b, mark := put(noted(s))
	return append([]byte{byte(version)}, b...), 1 + mark
}

// shown is bytes as text, without most of them if they are many.
func shown(b []byte) string {
	var l []string
	for _, c := range b[:min(len(b), 500)] {
		l = append(l, strconv.Itoa(int(c)))
	}
	return strconv.Itoa(len(b)) + " bytes: " + strings.Join(l, " ")
}

// wantError has bytes be refused there, and nothing else be told.
func wantError(t *testing.T, b []byte, want api.Errno, place int) {
	t.Helper()
	version, n, err, at := unpack.Tree(b)
	if err != want || at != place {
		t.Errorf("%s: %d at %d, not %d at %d", shown(b), err, at, want, place)
	}
	if version != 0 || n.Name != "" || n.Key != "" || n.Val != (api.Val{}) || len(n.Kids) != 0 {
		t.Errorf("%s: version %d and %v beside %d", shown(b), version, n, err)
	}
}

// wantWrong has noted parts be refused at the marked one.
func wantWrong(t *testing.T, version int, want api.Errno, s string) {
	t.Helper()
	if !strings.Contains(s, "^") {
		t.Fatalf("no mark in %s", s)
	}
	b, mark := bytesOf(version, s)
	wantError(t, b, want, mark)
	if t.Failed() {
		t.Fatalf("version %d: %s", version, s)
	}
}

// wantUnfit has noted parts be refused as a whole, for what valid.Check finds.
func wantUnfit(t *testing.T, version int, want api.Errno, s string) {
	t.Helper()
	b, _ := bytesOf(version, s)
	wantError(t, b, want, 0)
	if t.Failed() {
		t.Fatalf("version %d: %s", version, s)
	}
}

// wantTree has bytes be a tree, which is packed as these bytes.
func wantTree(t *testing.T, b []byte, version int, want api.Node) {
	t.Helper()
	got, n, err, at := unpack.Tree(b)
	if got != version || err != api.OK || at != 0 || !tree.Same(n, want) {
		t.Fatalf("%s: version %d, %v, %d at %d, not version %d, %v", shown(b), got, n, err, at, version, want)
	}
	if !tree.Right(n) || !valid.May(got, n) {
		t.Fatalf("%s: %v", shown(b), n)
	}
	if back, err := pack.Bytes(got, n); err != api.OK || !bytes.Equal(back, b) {
		t.Fatalf("%s is packed as %s, %d", shown(b), shown(back), err)
	}
}

// wantText has noted parts be the tree of a text.
func wantText(t *testing.T, text string, s string) {
	t.Helper()
	version := int(text[len("version ")] - '0')
	b, _ := bytesOf(version, s)
	wantTree(t, b, version, parsed(t, text))
}

// wantPacked has a valid tree be read back from its bytes.
func wantPacked(t *testing.T, version int, n api.Node) {
	t.Helper()
	b, err := pack.Bytes(version, n)
	if err != api.OK {
		t.Fatalf("version %d: %d of %v", version, err, n)
	}
	wantTree(t, b, version, n)
}

// wantModel holds bytes against the model; it tells what the answer was.
func wantModel(t *testing.T, b []byte) api.Errno {
	t.Helper()
	version, n, err, at := model(b)
	if err == api.OK {
		wantTree(t, b, version, n)
	} else {
		wantError(t, b, err, at)
	}
	if t.Failed() {
		t.FailNow()
	}
	return err
}

func TestExamples(t *testing.T) { // P14.1
	wantError(t, []byte{3, 9, 0}, api.ErrName, 1)
	wantTree(t, []byte{3, 2, 2, 97, 98}, 3, parsed(t, "version 3; system ab;"))
	wantTree(t, []byte{
		3,
		5, 72, 0, 1, 'a',
		5, 22, 0, 2, 'b', 'e', 2, 2, 5, 220, 4, 2, 3, 232, 6, 2, 11, 184, 8, 1, 8, 10, 1, 1,
		5, 22, 0, 4, 'g', 'o', 'l', 'd', 2, 2, 11, 184, 4, 0, 6, 2, 11, 184, 8, 1, 4, 10, 1, 0,
		7, 15, 0, 1, 'r', 2, 1, 10, 4, 1, 19, 6, 4, 'g', 'o', 'l', 'd',
		8, 2, 'b', 'e',
	}, 3, parsed(t, `version 3;
port a {
  class be { burst 3000; depth 8; quantum 1500; rate 1k; shaped true; }
  class gold { burst 3000; depth 4; quantum 3000; rate 0; shaped false; }
  default be;
  rule r { class gold; high 19; low 10; }
}
`))
}

func TestEmptyRoot(t *testing.T) { // P14.1, P14.3
	versions(func(version int) {
		wantTree(t, []byte{byte(version)}, version, api.Node{})
		wantPacked(t, version, api.Node{})
	})
}

func TestSmall(t *testing.T) { // P14.1, P14.2
	wantText(t, "version 1; system ab;", "2='ab'")
	wantText(t, "version 2; system ab;", "2='ab'")
	wantText(t, "version 3; wait 5;", "6=5")
	wantText(t, "version 3; wait 256; system z;", "2='z' 6=1,0")
	wantText(t, "version 1; port b { default x; class x { quantum 1500; rate 0; burst 1500; limit 1; } }",
		"5(0='b' 5(0='x' 2=5,220 4= 6=5,220 8=1) 8='x')")
	wantText(t, "version 2; port b { kind lab; up false; default x; class x { quantum 1500; rate 1; burst 1500; limit 1; shaped true; } }",
		"5(0='b' 2=0 5(0='x' 2=5,220 4=1 6=5,220 8=1 10=1) 8='x' 10=2)")
	wantText(t, "version 3; port b { kind edge; up true; default x; class x { quantum 1500; rate 1; burst 1500; depth 1; shaped false; } }",
		"5(0='b' 2=1 5(0='x' 2=5,220 4=1 6=5,220 8=1 10=0) 8='x' 10=0)")
}

// fullNotes is the parts of full.
func fullNotes(version int) string {
	s := `2='s-1'
5(0='a' 2=1
  5(0='be' 2=5,220 4=3,232 6=11,184 8=8 10=1)
  5(0='gold' 2=1,134,160 4= 6=15,66,64 8=64 10=0)
  5(0='idle' 2=1,0,0 4=255 6=16,0 8=1 10=1)
  7(0='r' 2=10 4=19 6='gold')
  7(0='s' 2= 4=255,255 6='idle')
  8='be' 10=1)
5(0='b' 5(0='x' 2=5,221 4=7,208 6=5,222 8=3 10=1) 8='x')
6=3,232`
	if version < 3 {
		s = strings.Replace(s, "6=3,232", "", 1)
	}
	if version < 2 {
		s = strings.NewReplacer(" 10=0", "", " 10=1", "").Replace(s)
	}
	return s
}

func TestFull(t *testing.T) { // P14.1, P14.2, P14.3
	versions(func(version int) {
		wantText(t, turned(version, fullText), fullNotes(version))
		wantPacked(t, version, full(t, version))
		b, _ := bytesOf(version, fullNotes(version))
		if err := wantModel(t, b); err != api.OK {
			t.Errorf("version %d: the model tells %d", version, err)
		}
	})
}

func TestWide(t *testing.T) { // P14.1, P14.3
	versions(func(version int) {
		wantPacked(t, version, wide(t, version))
		b, _ := pack.Bytes(version, wide(t, version))
		if err := wantModel(t, b); err != api.OK {
			t.Errorf("version %d: the model tells %d", version, err)
		}
	})
}

// TestSorted: kids stand in the order of their names, as tree.Sorted has them, and not in that of the items.
func TestSorted(t *testing.T) { // P14.1
	names := func(n api.Node) string {
		var l []string
		for _, kid := range n.Kids {
			l = append(l, strings.TrimSpace(kid.Name+" "+kid.Key))
		}
		return strings.Join(l, ", ")
	}
	wantNames := func(n api.Node, want string) {
		t.Helper()
		if got := names(n); got != want {
			t.Errorf("%s, not %s", got, want)
		}
	}
	b, _ := bytesOf(3, fullNotes(3))
	_, n, _, _ := unpack.Tree(b)
	wantNames(n, "port a, port b, system, wait")
	a := n.Kids[0]
	wantNames(a, "class be, class gold, class idle, default, kind, rule r, rule s, up")
	for i := range 3 {
		wantNames(a.Kids[i], "burst, depth, quantum, rate, shaped")
	}
	for i := 5; i < 7; i++ {
		wantNames(a.Kids[i], "class, high, low")
	}
	wantNames(n.Kids[1], "class x, default")

	b, _ = bytesOf(1, fullNotes(1))
	_, n, _, _ = unpack.Tree(b)
	wantNames(n, "port a, port b, system")
	wantNames(n.Kids[0], "class be, class gold, class idle, default, rule r, rule s, up")
	wantNames(n.Kids[0].Kids[0], "burst, limit, quantum, rate")
}

func TestNoNumber(t *testing.T) { // P14.1
	long := func(n int, last ...byte) []byte { return append(bytes.Repeat([]byte{128}, n), last...) }
	for _, x := range []struct {
		b   []byte
		err api.Errno
	}{
		{nil, api.ErrShort},
		{[]byte{}, api.ErrShort},
		{[]byte{128}, api.ErrShort},
		{[]byte{131}, api.ErrShort},
		{[]byte{255, 255}, api.ErrShort},
		{long(9), api.ErrShort},
		{long(10), api.ErrBig},
		{long(11), api.ErrBig},
		{long(10, 1), api.ErrBig},
		{long(10, 0), api.ErrBig},
		{long(9, 2), api.ErrBig},
		{append([]byte{131}, long(8, 2)...), api.ErrBig},
		{long(9, 127), api.ErrBig},
		{bytes.Repeat([]byte{255}, 10), api.ErrBig},
		{bytes.Repeat([]byte{255}, 10000), api.ErrBig},
		{[]byte{128, 0}, api.ErrForm},
		{[]byte{129, 0}, api.ErrForm},
		{[]byte{130, 0}, api.ErrForm},
		{[]byte{131, 0}, api.ErrForm},
		{[]byte{131, 128, 0}, api.ErrForm},
		{[]byte{132, 0}, api.ErrForm}, // version 4, too
		{long(9, 0), api.ErrForm},
	} {
		wantError(t, x.b, x.err, 0)
		wantModel(t, x.b)
		if x.err == api.ErrShort {
			continue
		}
		// Whatever follows: a fault of items, one of what an item is, a tree, or too much.
		for _, rest := range [][]byte{{2}, {9, 0}, {2, 2, 97, 98}, {5, 0}, {255}, make([]byte, 8193)} {
			wantError(t, slices.Concat(x.b, rest), x.err, 0)
		}
	}
}

func TestNoVersion(t *testing.T) { // P14.1
	for _, x := range []uint64{0, 4, 5, 7, 10, 100, 127, 128, 129, 255, 256, 257, 259, 300, 1<<16 + 1, 1<<31 - 1, 1 << 31, 1<<32 + 1, 1<<32 + 3,
		math.MaxInt64 - 1, math.MaxInt64, 1 << 63, 1<<63 + 1, 1<<63 + 2, 1<<63 + 3, math.MaxUint64 - 2, math.MaxUint64 - 1, math.MaxUint64} {
		b := varint.Put(x)
		wantError(t, b, api.Version, 0)
		// Whatever follows, as above.
		for _, rest := range [][]byte{{2}, {9, 0}, {2, 2, 97, 98}, {2, 1, 'a'}, {5, 0}, {255}, make([]byte, 8193)} {
			wantError(t, slices.Concat(b, rest), api.Version, 0)
		}
	}
	versions(func(version int) {
		good, _ := bytesOf(version, fullNotes(version))
		for x := range 256 {
			b := append([]byte{byte(x)}, good[1:]...)
			switch {
			case x == version:
				wantTree(t, b, version, full(t, version))
			case x == 0 || x > 3 && x < 128:
				wantError(t, b, api.Version, 0)
			default:
				wantModel(t, b)
			}
		}
	})
}

// TestNoItems has bytes that are no items, with the offset from their very beginning on.
func TestNoItems(t *testing.T) { // P14.1
	number := func(n int, last ...byte) []byte { return append(bytes.Repeat([]byte{128}, n), last...) }
	deep := func(levels int, tag byte) []byte {
		var b []byte
		for range levels {
			b = slices.Concat([]byte{tag, byte(len(b))}, b)
		}
		return b
	}
	for _, x := range []struct {
		b   []byte
		err api.Errno
		at  int
	}{
		// A tag.
		{[]byte{128}, api.ErrShort, 1},
		{[]byte{2, 1, 'a', 130}, api.ErrShort, 4},
		{[]byte{130, 0, 1, 'a'}, api.ErrForm, 1},
		{[]byte{2, 1, 'a', 130, 0, 0}, api.ErrForm, 4},
		{number(10, 1), api.ErrBig, 1},
		{append([]byte{2, 0}, number(9, 2)...), api.ErrBig, 3},
		{[]byte{5, 4, 0, 1, 'a', 130, 0}, api.ErrShort, 6},
		{[]byte{5, 5, 0, 1, 'a', 130, 0}, api.ErrForm, 6},
		// A length.
		{[]byte{2}, api.ErrShort, 2},
		{[]byte{2, 128}, api.ErrShort, 2},
		{[]byte{2, 129, 0, 'a'}, api.ErrForm, 2},
		{append([]byte{2}, number(9, 2)...), api.ErrBig, 2},
		{[]byte{172, 2}, api.ErrShort, 3},
		{[]byte{2, 1, 'a', 5}, api.ErrShort, 5},
		{[]byte{2, 1, 'a', 5, 1, 2}, api.ErrShort, 7},
		{[]byte{5, 6, 0, 1, 'a', 5, 1, 7}, api.ErrShort, 9},
		// A content.
		{[]byte{2, 1}, api.ErrShort, 3},
		{[]byte{2, 2, 'a'}, api.ErrShort, 3},
		{[]byte{2, 255, 255, 255, 255, 255, 255, 255, 255, 255, 1, 'a'}, api.ErrShort, 12},
		{[]byte{2, 1, 'a', 5, 1}, api.ErrShort, 6},
		{[]byte{5, 2, 2, 1, 'a'}, api.ErrShort, 5},
		{[]byte{5, 5, 0, 1, 'a', 2, 1, 1}, api.ErrShort, 8},
		{[]byte{5, 7, 0, 1, 'a', 5, 2, 0, 1, 'x'}, api.ErrShort, 10},
		// Depth.
		{deep(7, 5), api.ErrDeep, 13},
		{deep(8, 5), api.ErrDeep, 13},
		{deep(40, 1), api.ErrDeep, 13},
		{append([]byte{2, 1, 'a'}, deep(7, 5)...), api.ErrDeep, 16},
		{deep(6, 9), api.ErrName, 1},
		// Too many bytes; one of them is the version's.
		{make([]byte, 8193), api.ErrBig, 1},
		{make([]byte, 8194), api.ErrBig, 1},
		{bytes.Repeat([]byte{128}, 8193), api.ErrBig, 1},
		{bytes.Repeat([]byte{128}, 8192), api.ErrBig, 1},
		{make([]byte, 100000), api.ErrBig, 1},
		{make([]byte, 8192), api.ErrName, 1},
		{make([]byte, 8191), api.ErrShort, 8192},
	} {
		versions(func(version int) {
			b := append([]byte{byte(version)}, x.b...)
			wantError(t, b, x.err, x.at)
			wantModel(t, b)
			if _, err, at := tlv.Get(x.b); err != api.OK && (err != x.err || 1+at != x.at) {
				t.Errorf("%s: tlv tells %d at %d", shown(x.b), err, at)
			}
			// What an item is comes behind that, however early it stands.
			if x.err != api.ErrName && len(x.b) <= 8180 {
				for _, ahead := range [][]byte{{9, 0}, {2, 0}, {5, 0}, {0, 1, 'a'}, {2, 1, 'a', 2, 1, 'a'}} {
					wantError(t, slices.Concat(b[:1], ahead, x.b), x.err, x.at+len(ahead))
				}
			}
		})
	}
}

// level is where items may stand: ahead of them, and tags there with a right content of each.
type level struct {
	ahead []string
	tags  []uint64
	right map[uint64]string
}

// levels is those of a version.
func levels(version int) []level {
	root := level{
		ahead: []string{""},
		tags:  []uint64{2, 5},
		right: map[uint64]string{2: "='s'", 5: "(0='k')", 6: "=5"},
	}
	long := "5(0='a' 5(0='a') 5(0='b' 2=5,220 4= 6=5,220 8=1) 5(0='c') 7(0='a') 7(0='b') 7(0='c') 7(0='d') 7(0='e' 2= 4=1 6='abcdefghijkl') 7(0='f' 2= 4=1 6='abcdefghijkl') 7(0='g' 2= 4=1 6='abcdefghijkl') 8='x') "
	port := level{
		ahead: []string{"5(0='p' ", "2='s' 5(0='p' ", "5(0='a') 5(0='b' 8='x') 5(0='p' ", long + "5(0='p' "},
		tags:  []uint64{2, 5, 7, 8},
		right: map[uint64]string{2: "=1", 5: "(0='k')", 7: "(0='k')", 8: "='x'", 10: "=2"},
	}
	class := level{
		ahead: []string{"5(0='p' 5(0='c' ", "2='s' 5(0='p' 2=1 5(0='c' ", "5(0='p' 5(0='a') 5(0='b' 6=5,220) 5(0='c' ", long + "5(0='z' 5(0='z' "},
		tags:  []uint64{2, 4, 6, 8},
		right: map[uint64]string{2: "=5,220", 4: "=", 6: "=11,184", 8: "=8", 10: "=1"},
	}
	rule := level{
		ahead: []string{"5(0='p' 7(0='c' ", "2='s' 5(0='p' 2=1 7(0='c' ", "5(0='p' 5(0='a') 5(0='b' 6=5,220) 7(0='a') 7(0='c' ", long + "5(0='z' 7(0='a' "},
		tags:  []uint64{2, 4, 6},
		right: map[uint64]string{2: "=", 4: "=19", 6: "='x'"},
	}
	if version > 1 {
		port.tags, class.tags = append(port.tags, 10), append(class.tags, 10)
	}
	if version > 2 {
		root.tags = append(root.tags, 6)
	}
	return []level{root, port, class, rule}
}

// item is a right one with that tag.
func (l level) item(tag uint64) string { return strconv.FormatUint(tag, 10) + l.right[tag] }

// behind is what may be behind a problem, and play no part.
func behind() []string {
	return []string{"", " 1()", " 5()", " 2='A' 2='A'", " 0='z'", ") 9()", ")) 9() 0="}
}

// wantWrongThere has items of a level be refused at the marked one, whatever is ahead of and behind them.
func wantWrongThere(t *testing.T, version int, l level, want api.Errno, s string) {
	t.Helper()
	for _, ahead := range l.ahead {
		for _, after := range behind() {
			wantWrong(t, version, want, ahead+s+after)
		}
	}
}

// wrongTags is tags that no kid of a level has.
func wrongTags(l level) []uint64 {
	tags := []uint64{127, 128, 129, 130, 133, 256 + 2, 256 + 5, 300, 301, 1<<32 + 2, 1<<32 + 5, 1 << 63, 1<<63 + 2, math.MaxUint64 - 1, math.MaxUint64}
	for tag := range uint64(40) {
		tags = append(tags, tag)
	}
	return slices.DeleteFunc(tags, func(tag uint64) bool { return slices.Contains(l.tags, tag) })
}

func TestNoName(t *testing.T) { // P14.2
	versions(func(version int) {
		for _, l := range levels(version) {
			for _, tag := range wrongTags(l) {
				s := strconv.FormatUint(tag, 10)
				contents := []string{"=", "=1", "='x'"}
				if tag%2 == 1 {
					contents = []string{"()", "(0='x')", "(0='A')", "(1() 1=)"}
				}
				for _, content := range contents {
					wantWrong(t, version, api.ErrName, l.ahead[0]+"^"+s+content)
				}
				wantWrongThere(t, version, l, api.ErrName, "^"+s+contents[0])
				// Behind each of the right ones, too, be their tags greater or lesser.
				for _, first := range l.tags {
					wantWrong(t, version, api.ErrName, l.ahead[0]+l.item(first)+" ^"+s+contents[1])
				}
			}
		}
	})
}

// TestKeyTwice has the tag 0 where no key is asked.
func TestKeyTwice(t *testing.T) { // P14.2
	versions(func(version int) {
		for _, s := range []string{"^0=", "^0='a'", "2='s' ^0='a'", "5(0='a' ^0='a'", "5(0='a' ^0='b'", "5(0='a' 2=1 ^0='b'", "5(0='a' 5(0='a' ^0='a'", "5(0='a' 7(0='a' 2=1 ^0='z'", "5(0='a' 8='x') ^0='b'"} {
			wantWrong(t, version, api.ErrName, s)
		}
	})
}

func TestOrder(t *testing.T) { // P14.2
	versions(func(version int) {
		for _, l := range levels(version) {
			for i, high := range l.tags {
				for _, low := range l.tags[:i] {
					wantWrongThere(t, version, l, api.ErrForm, l.item(high)+" ^"+l.item(low))
					// Ahead of what is in it, whatever that is.
					contents := []string{"=", "='A'", "=0,0", "=255,255,255,255"}
					if low%2 == 1 {
						contents = []string{"()", "(0='A')", "(0=)", "(2=1)", "(0='z' 9=)", "(0='a')", "(0='z')"}
					}
					for _, content := range contents {
						wantWrong(t, version, api.ErrForm, l.ahead[0]+l.item(high)+" ^"+strconv.FormatUint(low, 10)+content)
					}
					// The one ahead counts, not the first one.
					wantWrong(t, version, api.ErrForm, l.ahead[0]+l.item(low)+" "+l.item(high)+" ^"+l.item(low))
					wantWrong(t, version, api.ErrForm, l.ahead[0]+l.item(low)+" "+l.item(high)+" ^"+l.item(high))
				}
			}
		}
	})
}

func TestTwice(t *testing.T) { // P14.2
	versions(func(version int) {
		for _, l := range levels(version) {
			for _, tag := range l.tags {
				if tag%2 == 1 {
					continue
				}
				one := l.item(tag)
				wantWrongThere(t, version, l, api.ErrForm, one+" ^"+one)
				for _, content := range []string{"=", "=1", "=0", "='t'", "='A'", "=5,221", "=255,255,255"} {
					wantWrong(t, version, api.ErrForm, l.ahead[0]+one+" ^"+strconv.FormatUint(tag, 10)+content)
				}
			}
		}
	})
}

// lists is what stands ahead of the items of each list, and their tags.
func lists() []struct{ ahead, tag string } {
	return []struct{ ahead, tag string }{
		{"", "5"}, {"2='s' ", "5"},
		{"5(0='m' ", "5"}, {"5(0='b') 5(0='m' 2=1 ", "5"},
		{"5(0='m' ", "7"}, {"5(0='m' 5(0='y') ", "7"}, {"2='s' 5(0='m' 2=0 5(0='x') 5(0='z') ", "7"},
	}
}

func TestKeys(t *testing.T) { // P14.2
	rising := []string{"a", "a-", "a-0", "a0", "a9", "aa", "aaaaaaaaaaaa", "ab", "b", "b0", "z", "zz", "zzzzzzzzzzzz"}
	versions(func(version int) {
		for _, x := range lists() {
			item := func(key string) string { return x.tag + "(0='" + key + "')" }
			for i, one := range rising {
				for k, two := range rising {
					s := x.ahead + item(one) + " "
					if i >= k {
						wantWrong(t, version, api.ErrForm, s+"^"+item(two))
						// Ahead of what else is in it.
						wantWrong(t, version, api.ErrForm, s+"^"+x.tag+"(0='"+two+"' 9())")
					} else {
						wantUnfit(t, version, api.ErrLack, s+item(two))
						wantWrong(t, version, api.ErrForm, s+item(two)+" ^"+item(two))
						wantWrong(t, version, api.ErrForm, s+item(two)+" ^"+item(one))
						// It is not the last one that is wrong, but the first one.
						wantWrong(t, version, api.ErrForm, s+"^"+item(one)+" "+item(two))
						wantWrong(t, version, api.ErrName, s+x.tag+"(0='"+two+"' ^0='a')")
					}
				}
			}
		}
	})
}

// TestOtherKeys has lists side by side, and in one another: the keys of one play no part in another.
func TestOtherKeys(t *testing.T) { // P14.2
	versions(func(version int) {
		wantOK := func(s string) {
			t.Helper()
			b, _ := bytesOf(version, s)
			if err := wantModel(t, b); err != api.OK {
				t.Errorf("version %d, %s: %d", version, s, err)
			}
		}
		class := func(key string) string { return wholeClass(version, key) }
		rule := func(key string) string { return wholeRule(key, "z") }
		wantOK("5(0='z' " + class("z") + "8='z')")
		wantOK("5(0='z' " + class("z") + rule("z") + "8='z')")
		wantOK("5(0='z' " + class("z") + rule("a") + rule("b") + "8='z')")
		wantOK("5(0='z' " + class("a") + class("z") + rule("a") + "8='z')")
		wantOK("5(0='a' " + class("z") + rule("z") + "8='z') 5(0='b' " + class("z") + rule("z") + "8='z')")
		wantOK("5(0='a' " + class("z") + rule("z") + "8='z') 5(0='b' " + class("a") + class("z") + rule("a") + "8='a')")
		// Behind a port's kids, its own key is the one ahead again.
		wantWrong(t, version, api.ErrForm, "5(0='b' "+class("a")+"8='a') ^5(0='b' "+class("c")+"8='c')")
		wantWrong(t, version, api.ErrForm, "5(0='b' "+class("a")+"8='a') ^5(0='a' "+class("c")+"8='c')")
		wantWrong(t, version, api.ErrForm, "5(0='c' "+class("z")+"8='z') ^5(0='b' "+class("z")+"8='z')")
	})
}

func TestNoKey(t *testing.T) { // P14.2
	versions(func(version int) {
		for _, x := range lists() {
			for _, ahead := range []string{"", x.tag + "(0='a') ", x.tag + "(0='a') " + x.tag + "(0='b') "} {
				wrong := func(err api.Errno, within string) {
					t.Helper()
					for _, after := range behind() {
						wantWrong(t, version, err, x.ahead+ahead+"^"+x.tag+"("+within+")"+after)
					}
				}
				for _, within := range []string{"", "2=1", "2='z'", "2=1 0='z'", "5(0='z')", "5()", "1()", "1() 0='z'", "6=", "300=", "9=", "7(0='z') 0='z'"} {
					wrong(api.ErrForm, within)
				}
				for _, key := range []string{"=", "='A'", "='zZ'", "='-z'", "='1z'", "='z z'", "='z_'", "=' z'", "='z '", "=122,0", "=0", "=122,10", "=255", "=195,164", "='zzzzzzzzzzzzz'", "='zzzzzzzzzzzzzzzzzzzzzz'", "='z/'", "='z:'", "='{'", "='`'"} {
					wrong(api.ErrValue, "0"+key)
					wrong(api.ErrValue, "0"+key+" 9()")
					wrong(api.ErrValue, "0"+key+" 0='z'")
				}
			}
			// The key is no name, though it is out of order too.
			wantWrong(t, version, api.ErrValue, x.ahead+x.tag+"(0='b') ^"+x.tag+"(0='A')")
			wantWrong(t, version, api.ErrValue, x.ahead+x.tag+"(0='b') ^"+x.tag+"(0=)")
			wantWrong(t, version, api.ErrValue, x.ahead+x.tag+"(0='aaaaaaaaaaaa') ^"+x.tag+"(0='aaaaaaaaaaaaa')")
		}
	})
}

// TestWithin has an item whose kids are wrong behind a key that is right, ahead of what follows it.
func TestWithin(t *testing.T) { // P14.2
	versions(func(version int) {
		for _, s := range []string{
			"5(0='a' ^9=)", "5(0='a' 2=1 ^9=)", "5(0='a' 5(0='b' ^9=))", "5(0='a' 5(0='b' 2=5,220 ^12=) 8='x')", "5(0='a' 7(0='b' 2= ^8=1)",
			"5(0='a') 5(0='b' ^9=)", "5(0='a' 5(0='a') 5(0='b' ^9=))", "5(0='a' 5(0='z') 7(0='b' ^9=))", "5(0='a' 5(0='z') 7(0='a') 7(0='b' ^9=))",
		} {
			for _, after := range []string{"", " 5(0='a')", " 5()", " 2='A'", " 9=", " 0="} {
				wantWrong(t, version, api.ErrName, s+after)
			}
		}
		// One that stands further ahead is the first, how deep it may stand.
		wantWrong(t, version, api.ErrValue, "^2='A' 5(0='a' 9=)")
		wantWrong(t, version, api.ErrName, "2='s' 5(0='a' 2=1 ^9=) 5(0='A')")
		wantWrong(t, version, api.ErrValue, "2='s' 5(0='a' ^2=2 9=) 9=")
		wantWrong(t, version, api.ErrForm, "5(0='a' 5(0='b' 4= ^2=5,220 12=)) 9=")
		wantWrong(t, version, api.ErrValue, "5(0='a' 5(0='b' ^2=5,219 12=)) 9=")
	})
}

func TestNoValue(t *testing.T) { // P14.2
	names := []string{"=", "='A'", "='-a'", "='1a'", "='a_'", "='a a'", "='aaaaaaaaaaaaa'", "=0", "=97,0", "=195,164"}
	flags := []string{"=", "=2", "=255", "=0,0", "=0,1", "=1,0", "='1'", "='true'"}
	port, class, rule := "5(0='p' ", "5(0='p' 5(0='c' ", "5(0='p' 7(0='r' "
	for _, x := range []struct {
		from   int
		ahead  string
		tag    string
		wrong  []string
		others []string // what is ahead of it in its box
	}{
		{1, "", "2", names, nil},
		{3, "", "6", []string{"=", "=0", "=3,233", "=0,1", "=1,0,0", "=255,255", "=0,0,0,0,0,0,0,0,1"}, []string{"2='s' "}},
		{1, port, "2", flags, nil},
		{1, port, "8", names, []string{"2=1 ", "5(0='x') ", "7(0='x') "}},
		{2, port, "10", []string{"=", "=3", "=4", "=255", "=0,0", "=0,1", "='edge'"}, []string{"2=1 ", "5(0='x') ", "8='x' "}},
		{1, class, "2", []string{"=", "=0", "=5,219", "=1,134,161", "=0,5,220", "=255", "=220", "=1,0,0,0,0,0,0,5,220", "=255,255,255,255,255,255,255,255"}, nil},
		{1, class, "4", []string{"=0", "=15,66,65", "=0,1", "=0,0", "=16,0,0", "=1,0,0,0", "=1,0,0,0,0,0,0,0,0"}, []string{"2=5,220 "}},
		{1, class, "6", []string{"=", "=0", "=5,219", "=15,66,65", "=0,5,220", "=255,255,255"}, []string{"2=5,220 ", "4= "}},
		{1, class, "8", []string{"=", "=0", "=65", "=0,1", "=255", "=1,0", "=1,1"}, []string{"2=5,220 ", "6=5,220 "}},
		{2, class, "10", flags, []string{"8=1 ", "4= "}},
		{1, rule, "2", []string{"=0", "=0,0", "=1,0,0", "=0,1", "=255,255,255"}, nil},
		{1, rule, "4", []string{"=0", "=0,0", "=1,0,0", "=0,1", "=255,255,255"}, []string{"2= ", "2=255,255 "}},
		{1, rule, "6", names, []string{"2= ", "4=9 "}},
	} {
		for version := x.from; version <= 3; version++ {
			for _, wrong := range x.wrong {
				for _, other := range append(x.others, "") {
					for _, after := range behind() {
						wantWrong(t, version, api.ErrValue, x.ahead+other+"^"+x.tag+wrong+after)
					}
				}
			}
		}
	}
}

func TestLeaves(t *testing.T) { // P14.1, P14.2, P14.3
	const text = "version 3; system S; wait W; port a { up U; class be { quantum Q; rate R; burst B; depth D; shaped H; } class x { quantum 1500; rate 0; burst 1500; depth 1; shaped true; } rule r { low L; high I; class C; } default F; kind K; } "
	base := map[string]string{"S": "s", "W": "5", "U": "true", "Q": "1500", "R": "1k", "B": "3000", "D": "8", "H": "true", "L": "10", "I": "19", "C": "be", "F": "be", "K": "core"}
	for leaf, values := range map[string][]string{
		"S": {"a", "z-0123456789", "abcdefghijkl"},
		"W": {"1", "255", "256", "999", "1000"},
		"U": {"false", "true"},
		"Q": {"1500", "1501", "65535", "65536", "99999", "100000"},
		"R": {"0", "1", "255", "256", "1k", "65535", "65536", "999999", "1m"},
		"B": {"1500", "65536", "999999", "1000000"},
		"D": {"1", "2", "63", "64"},
		"H": {"false", "true"},
		"L": {"0", "1", "255", "256", "65534", "65535"},
		"I": {"0", "1", "255", "256", "65534", "65535"},
		"C": {"be", "x"},
		"F": {"be", "x"},
		"K": {"edge", "core", "lab"},
	} {
		for _, v := range values {
			s := text
			for name, own := range base {
				if name == leaf {
					own = v
				}
				s = strings.Replace(s, " "+name+";", " "+own+";", 1)
			}
			three := parsed(t, s)
			wantPacked(t, 3, three)
			two := regexp.MustCompile(`wait \d+;`).ReplaceAllString(strings.NewReplacer("version 3", "version 2", "depth", "limit").Replace(s), "")
			wantPacked(t, 2, parsed(t, two))
			one := regexp.MustCompile(`(shaped|kind) [a-z]+;`).ReplaceAllString(strings.Replace(two, "version 2", "version 1", 1), "")
			wantPacked(t, 1, parsed(t, one))
			for version, s := range map[int]string{1: one, 2: two, 3: s} {
				b, _ := pack.Bytes(version, parsed(t, s))
				if err := wantModel(t, b); err != api.OK {
					t.Errorf("version %d, %s: the model tells %d", version, s, err)
				}
			}
		}
	}
}

// whole is the notes of a class, a rule and a port that lack nothing.
func wholeClass(version int, key string) string {
	s := "5(0='" + key + "' 2=5,220 4= 6=5,220 8=1"
	if version > 1 {
		s += " 10=0"
	}
	return s + ") "
}

func wholeRule(key, class string) string { return "7(0='" + key + "' 2= 4= 6='" + class + "') " }

func wholePort(version int, key string) string {
	return "5(0='" + key + "' " + wholeClass(version, "x") + "8='x') "
}

// keysOf is the first so many keys, rising.
func keysOf(count int) []string { return strings.Split("abcdefghijklmnopqrstuvwxyz", "")[:count] }

// TestUnfit has items of which each is right, but the tree of them is not.
func TestUnfit(t *testing.T) { // P14.1
	versions(func(version int) {
		class := wholeClass(version, "x")
		wantUnfit(t, version, api.ErrLack, "5(0='a')")
		wantUnfit(t, version, api.ErrLack, "2='s' 5(0='a' "+class+")")
		wantUnfit(t, version, api.ErrLack, wholePort(version, "a")+"5(0='b' "+class+")")
		for _, tag := range []string{"2=5,220", "4=", "6=5,220", "8=1", "10=0"} {
			if strings.Contains(class, " "+tag) {
				wantUnfit(t, version, api.ErrLack, "5(0='a' "+strings.Replace(class, " "+tag, "", 1)+"8='x')")
			}
		}
		for _, tag := range []string{" 2=", " 4=", " 6='x'"} {
			wantUnfit(t, version, api.ErrLack, "5(0='a' "+class+strings.Replace(wholeRule("r", "x"), tag, "", 1)+"8='x')")
		}
		wantUnfit(t, version, api.ErrRef, "5(0='a' 8='x')")
		wantUnfit(t, version, api.ErrRef, "5(0='a' "+class+"8='y')")
		wantUnfit(t, version, api.ErrRef, "5(0='a' "+class+wholeRule("r", "y")+"8='x')")
		wantUnfit(t, version, api.ErrRef, wholePort(version, "a")+"5(0='b' "+wholeClass(version, "y")+"8='x')")
		// What lacks is ahead of what is named.
		wantUnfit(t, version, api.ErrLack, "5(0='a' 8='y') 5(0='b' "+class+")")
		// And a problem of items is ahead of both.
		wantWrong(t, version, api.ErrName, "5(0='a') 5(0='b' 8='y') ^9()")
		wantWrong(t, version, api.ErrValue, "5(0='a' 8='y') 5(0='b' ^2=9)")
		wantWrong(t, version, api.ErrForm, "5(0='a') ^2='s'")
	})
}

func TestTooMany(t *testing.T) { // P14.1
	versions(func(version int) {
		one := func(ports, classes, rules int) string {
			s := ""
			for _, key := range keysOf(ports) {
				s += "5(0='" + key + "' "
				for _, class := range keysOf(classes) {
					s += wholeClass(version, class)
				}
				for _, rule := range keysOf(rules) {
					s += wholeRule(rule, "a")
				}
				s += "8='a') "
			}
			return s
		}
		for _, x := range []struct{ ports, classes, rules int }{{4, 1, 0}, {1, 8, 0}, {1, 1, 16}, {4, 8, 16}} {
			b, _ := bytesOf(version, one(x.ports, x.classes, x.rules))
			if err := wantModel(t, b); err != api.OK {
				t.Errorf("version %d, %v: %d", version, x, err)
			}
		}
		for _, x := range []struct{ ports, classes, rules int }{{5, 1, 0}, {1, 9, 0}, {1, 1, 17}, {26, 1, 0}, {1, 26, 26}, {5, 9, 17}} {
			wantUnfit(t, version, api.ErrMany, one(x.ports, x.classes, x.rules))
			// A problem of items is ahead of that.
			wantWrong(t, version, api.ErrName, one(x.ports, x.classes, x.rules)+"^9()")
		}
	})
}

// TestOtherVersion has the bytes of one version behind the number of another one.
func TestOtherVersion(t *testing.T) { // P14.1, P14.2
	wantWrong(t, 1, api.ErrName, strings.Replace(fullNotes(2), "10=1", "^10=1", 1))
	wantWrong(t, 1, api.ErrName, strings.Replace(fullNotes(3), "10=1", "^10=1", 1))
	wantWrong(t, 2, api.ErrName, strings.Replace(fullNotes(3), "6=3,232", "^6=3,232", 1))
	wantUnfit(t, 2, api.ErrLack, fullNotes(1))
	wantUnfit(t, 3, api.ErrLack, fullNotes(1))
	wantText(t, strings.Replace(fullText, "wait 1000;", "", 1), fullNotes(2))
	for _, to := range []int{1, 2} {
		wantWrong(t, to, api.ErrName, "^6=5")
		wantWrong(t, to, api.ErrName, "2='s' ^6=5")
	}
	wantWrong(t, 1, api.ErrName, "5(0='a' ^10=1)")
	wantWrong(t, 1, api.ErrName, "5(0='a' 5(0='b' ^10=1))")
	wantWrong(t, 1, api.ErrName, "5(0='a' 8='x' ^10=1)")
}

// TestOffsets has a problem behind items of many lengths, with lengths of one byte and of two.
func TestOffsets(t *testing.T) { // P14.1
	versions(func(version int) {
		ahead := ""
		for i := range 40 {
			key := "k" + strconv.Itoa(100+i)
			port := ahead + "5(0='" + key + "' "
			for _, within := range []string{"", "2=1 ", "5(0='a' 2=5,220) ", "8='abcdefgh'"} {
				wantWrong(t, version, api.ErrName, port+within+"^9()) 2=")
				wantWrong(t, version, api.ErrName, port+within+"^300=)")
			}
			wantWrong(t, version, api.ErrName, port+"7(0='z' 4=1 ^10=)")
			wantWrong(t, version, api.ErrForm, ahead+"^5()")
			for class := range i % 17 {
				port += "5(0='c" + strconv.Itoa(100+class) + "' 2=5,220 6=5,220) "
			}
			ahead = port + ") "
		}
	})
	// The numbers themselves, once by hand.
	wantError(t, []byte{3, 2, 1, 's', 5, 8, 0, 1, 'a', 5, 3, 0, 1, 'b', 9, 0}, api.ErrName, 14)
	wantError(t, []byte{3, 2, 1, 's', 5, 8, 0, 1, 'a', 5, 3, 0, 1, 'B', 9, 0}, api.ErrValue, 9)
	wantError(t, []byte{3, 2, 1, 's', 5, 8, 0, 1, 'A', 5, 3, 0, 1, 'B', 9, 0}, api.ErrValue, 4)
	wantError(t, []byte{3, 2, 1, 'S', 5, 8, 0, 1, 'a', 5, 3, 0, 1, 'B', 9, 0}, api.ErrValue, 1)
	wantError(t, []byte{3, 2, 1, 's', 5, 10, 0, 1, 'a', 5, 5, 0, 1, 'b', 2, 0, 9, 0}, api.ErrValue, 14)
	wantError(t, []byte{3, 2, 1, 's', 5, 8, 0, 1, 'a', 5, 3, 0, 1, 'b', 2, 0}, api.ErrForm, 14)
	wantError(t, []byte{3, 2, 1, 's', 5, 3, 0, 1, 'a'}, api.ErrLack, 0)
}

// spots is all nodes of a tree, where they stand.
func spots(n *api.Node) []*api.Node {
	l := []*api.Node{n}
	for i := range n.Kids {
		l = append(l, spots(&n.Kids[i])...)
	}
	return l
}

// vary changes a tree in one place, which may be behind that or not.
func vary(r *rand.Rand, n *api.Node) {
	l := spots(n)
	spot := l[r.Intn(len(l))]
	text := []string{"be", "gold", "idle", "x", "edge", "core", "lab", "a", "none", "a-b", "A"}[r.Intn(11)]
	switch r.Intn(7) {
	case 0:
		spot.Key = text
	case 1:
		spot.Val.Num = uint64(r.Intn(1 << r.Intn(21)))
	case 2:
		spot.Val.Text = text
	case 3:
		spot.Val.Num = 1 - spot.Val.Num
	case 4:
		if len(spot.Kids) > 0 {
			k := r.Intn(len(spot.Kids))
			spot.Kids = slices.Delete(spot.Kids, k, k+1)
		}
	case 5:
		if len(spot.Kids) > 0 {
			kid := tree.Sorted(spot.Kids[r.Intn(len(spot.Kids))])
			kid.Key += string("abc019-"[r.Intn(7)])
			spot.Kids = append(spot.Kids, kid)
		}
	case 6:
		spot.Kids = append(spot.Kids, tree.Sorted(*l[r.Intn(len(l))]))
	}
}

// TestManyTrees goes from valid tree to valid tree by changes; each of them is read back, and no two from the same bytes.
func TestManyTrees(t *testing.T) { // P14.3
	r := rand.New(rand.NewSource(14))
	versions(func(version int) {
		n, count := wide(t, version), 0
		for i := range 3000 {
			if i%300 == 299 {
				n = full(t, version)
			}
			next := tree.Sorted(n)
			vary(r, &next)
			if next = tree.Sorted(next); !valid.May(version, next) {
				continue
			}
			n = next
			count++
			wantPacked(t, version, n)
		}
		if count < 200 {
			t.Errorf("version %d: only %d trees", version, count)
		}
	})
}

// twins is bytes that differ from some in one byte: another one, one less, one more, or all behind it lack.
func twins(b []byte, values []int, call func(b []byte)) {
	for i := range b {
		call(slices.Clone(b[:i]))
		call(slices.Delete(slices.Clone(b), i, i+1))
		for _, v := range values {
			c := slices.Clone(b)
			c[i] += byte(v)
			call(c)
			call(slices.Insert(slices.Clone(b), i, byte(v)))
			call(slices.Insert(slices.Clone(b), i, b[i]+byte(v)))
		}
	}
	for v := range 256 {
		call(append(slices.Clone(b), byte(v)))
	}
}

// all256 is all that can be added to a byte.
func all256() []int {
	var l []int
	for v := range 256 {
		l = append(l, v)
	}
	return l
}

// TestAnyBytes: whatever is given, it is refused, or is a tree whose bytes are just these.
func TestAnyBytes(t *testing.T) { // P14.1, P14.2, P14.3
	count := map[api.Errno]int{}
	call := func(b []byte) { count[wantModel(t, b)]++ }
	versions(func(version int) {
		for _, s := range []string{"", "2='s'", wholePort(version, "a"), "2='s' " + wholePort(version, "a")} {
			b, _ := bytesOf(version, s)
			twins(b, all256(), call)
		}
		b, _ := bytesOf(version, fullNotes(version))
		twins(b, []int{1, 2, 3, 5, 10, 127, 128, 251, 254, 255}, call)
	})
	for a := range 256 {
		for b := range 256 {
			call([]byte{byte(a), byte(b)})
			versions(func(version int) { call([]byte{byte(version), byte(a), byte(b)}) })
		}
	}
	for _, err := range []api.Errno{api.OK, api.ErrShort, api.ErrForm, api.ErrName, api.ErrValue, api.ErrLack, api.ErrRef, api.Version} {
		if count[err] < 5 {
			t.Errorf("only %d times %d", count[err], err)
		}
	}
}

// places is all lists of parts within some, where they stand.
func places(l *[]part) []*[]part {
	out := []*[]part{l}
	for i := range *l {
		if (*l)[i].tag%2 == 1 {
			out = append(out, places(&(*l)[i].kids)...)
		}
	}
	return out
}

// cloned is parts in new memory.
func cloned(l []part) []part {
	l = slices.Clone(l)
	for i := range l {
		l[i].data, l[i].kids = slices.Clone(l[i].data), cloned(l[i].kids)
	}
	return l
}

// shuffle changes parts in one place: as items they stay sound, but not as a tree.
func shuffle(r *rand.Rand, l *[]part) {
	all := places(l)
	list := all[r.Intn(len(all))]
	if len(*list) == 0 {
		return
	}
	i, k := r.Intn(len(*list)), r.Intn(len(*list))
	p := &(*list)[i]
	switch r.Intn(8) {
	case 0:
		(*list)[i], (*list)[k] = (*list)[k], (*list)[i]
	case 1:
		*list = slices.Delete(*list, i, i+1)
	case 2:
		*list = slices.Insert(*list, k, cloned((*list)[i:i+1])...)
	case 3:
		p.tag = uint64(r.Intn(13))
	case 4:
		p.data = [][]byte{nil, {0}, {1}, {2}, {5, 220}, {255, 255}, []byte("x"), []byte("be"), []byte("A"), []byte("zz")}[r.Intn(10)]
	case 5:
		other := all[r.Intn(len(all))]
		if len(*other) > 0 {
			*list = slices.Insert(*list, k, cloned((*other)[:1])...)
		}
	case 6: // an item once more, with a key behind its own one
		if copied := cloned((*list)[i : i+1]); len(copied[0].kids) > 0 {
			copied[0].kids[0].data = append(copied[0].kids[0].data, "0az-"[r.Intn(4)])
			*list = slices.Insert(*list, i+1, copied...)
		}
	case 7:
		p.data = append(p.data, byte(r.Intn(256)))
	}
}

func TestAnyItems(t *testing.T) { // P14.1, P14.2, P14.3
	r := rand.New(rand.NewSource(41))
	count := map[api.Errno]int{}
	versions(func(version int) {
		for range 8000 {
			l := noted(fullNotes(version))
			for range 1 + r.Intn(3) {
				shuffle(r, &l)
			}
			b, _ := put(l)
			count[wantModel(t, append([]byte{byte(version)}, b...))]++
		}
	})
	for _, err := range []api.Errno{api.OK, api.ErrForm, api.ErrName, api.ErrValue, api.ErrLack, api.ErrRef} {
		if count[err] < 100 {
			t.Errorf("only %d times %d", count[err], err)
		}
	}
}

func TestNoise(t *testing.T) { // P14.1
	r := rand.New(rand.NewSource(3))
	for range 20000 {
		b := make([]byte, r.Intn(40))
		for i := range b {
			b[i] = byte(r.Intn(1 << (1 + r.Intn(8))))
		}
		wantModel(t, b)
		if len(b) > 0 {
			b[0] = byte(1 + r.Intn(3))
			wantModel(t, b)
		}
	}
	for _, size := range []int{1000, 8192, 8193, 8194, 100000} {
		b := make([]byte, size)
		r.Read(b)
		wantModel(t, b)
		b[0] = 3
		wantModel(t, b)
	}
}

// TestManyItems has as many items, and as many levels, as there may be.
func TestManyItems(t *testing.T) { // P14.1, P14.2
	versions(func(version int) {
		var b []byte
		for i := range 1000 {
			b = append(append(b, 5, 6, 0, 4), []byte{'k', byte('a' + i/100), byte('0' + i/10%10), byte('0' + i%10)}...)
		}
		given := append([]byte{byte(version)}, b...)
		wantError(t, given, api.ErrLack, 0)
		wantError(t, append(given, 9, 0), api.ErrName, len(given))
		wantError(t, append(given, 5, 6, 0, 4, 'k', 'j', '9', '9'), api.ErrForm, len(given))
		wantWrong(t, version, api.ErrName, "5(0='a' 5(0='a' ^5(5(5(5(")
	})
}

// refusedToo is bytes of a version that are a tree, and some that are none, for all kinds of reasons.
func refusedToo(version int) [][]byte {
	var l [][]byte
	for _, s := range []string{fullNotes(version), "", "9=", "2='A'", "5()", "5(0='a')", "5(0='a' 8='x')", "5(0='a') 5(0='a')", fullNotes(version) + " 9="} {
		b, _ := bytesOf(version, s)
		l = append(l, b, b[:len(b)-1])
	}
	return append(l, []byte{9}, []byte{128, 0}, append([]byte{byte(version)}, make([]byte, 8193)...))
}

func TestArguments(t *testing.T) { // P14.1
	versions(func(version int) {
		for _, b := range refusedToo(version) {
			room := append(slices.Clone(b), 1, 2, 3, 4, 5, 6, 7, 8)
			kept := slices.Clone(room)
			unpack.Tree(room[:len(b)])
			if !bytes.Equal(room, kept) {
				t.Errorf("%s is now %s", shown(kept), shown(room))
			}
			// What is behind the bytes plays no part.
			one, n, err, at := unpack.Tree(room[:len(b)])
			two, m, err2, at2 := unpack.Tree(slices.Clip(slices.Clone(b)))
			if one != two || !tree.Same(n, m) || err != err2 || at != at2 {
				t.Errorf("%s: %d, %v, %d, %d, and %d, %v, %d, %d", shown(b), one, n, err, at, two, m, err2, at2)
			}
		}
	})
}

func TestNewMemory(t *testing.T) { // P14.1
	versions(func(version int) {
		b, _ := bytesOf(version, fullNotes(version))
		kept := slices.Clone(b)
		_, n, _, _ := unpack.Tree(b)
		_, other, _, _ := unpack.Tree(b)

		// The tree stays, whatever becomes of the bytes.
		for i := range b {
			b[i] = 'q'
		}
		if !tree.Same(n, full(t, version)) {
			t.Errorf("version %d: the tree is now %v", version, n)
		}
		copy(b, kept)

		// The bytes, and another answer, stay, whatever becomes of the tree; no two lists of it are written over by one another.
		var lists [][]api.Node
		for _, spot := range spots(&n) {
			lists = append(lists, spot.Kids[:cap(spot.Kids)])
		}
		for i, list := range lists {
			for k := range list {
				list[k] = api.Node{Name: "list", Key: strconv.Itoa(i), Val: api.Val{Kind: api.Ref, Num: 7, Text: "z"}}
			}
		}
		for i, list := range lists {
			if slices.ContainsFunc(list, func(n api.Node) bool { return n.Key != strconv.Itoa(i) }) {
				t.Errorf("version %d: list %d is shared", version, i)
			}
		}
		if !bytes.Equal(b, kept) || !tree.Same(other, full(t, version)) {
			t.Errorf("version %d: %s, %v", version, shown(b), other)
		}
		wantTree(t, b, version, full(t, version))
	})
}

// TestSameAgain: what is answered hangs on nothing but what is given.
func TestSameAgain(t *testing.T) { // P14.1
	for range 3 {
		versions(func(version int) {
			for _, b := range refusedToo(version) {
				wantModel(t, b)
			}
			b, _ := bytesOf(version, fullNotes(version))
			wantTree(t, b, version, full(t, version))
		})
	}
}

// FuzzTree is for go test -fuzz; without that it takes what is added here alone.
func FuzzTree(f *testing.F) {
	versions(func(version int) {
		for _, b := range refusedToo(version) {
			f.Add(b)
		}
	})
	f.Fuzz(func(t *testing.T, b []byte) { wantModel(t, b) })
}
