package edits_test

import (
	"bytes"
	"math"
	"slices"
	"strconv"
	"strings"
	"testing"

	"tollbar/api"
	"tollbar/edits"
	"tollbar/tlv"
)

// The calls of the chapter, with just these signatures.
var (
	_ func([]api.Edit) ([]byte, api.Errno) = edits.Put
	_ func([]byte) ([]api.Edit, api.Errno) = edits.Get
	_ func([]api.Edit) bool                = edits.Check
)

// step is the step of a short text: a name, or a name and a key in brackets.
func step(s string) api.Step {
	name, key, _ := strings.Cut(strings.TrimSuffix(s, "]"), "[")
	return api.Step{Name: name, Key: key}
}

// way is the steps of short texts.
func way(steps ...string) []api.Step {
	var l []api.Step
	for _, s := range steps {
		l = append(l, step(s))
	}
	return l
}

// box is a node that is no leaf, leaf, text and with ones that are.
func box(s string, kids ...api.Node) api.Node {
	return api.Node{Name: step(s).Name, Key: step(s).Key, Kids: kids}
}

func leaf(s string, num uint64) api.Node {
	return with(s, api.Val{Kind: api.Uint, Num: num})
}

func text(s, of string) api.Node {
	return with(s, api.Val{Kind: api.Ref, Text: of})
}

func with(s string, v api.Val) api.Node {
	n := box(s)
	n.Val = v
	return n
}

// full is an edit with all that it may have.
func full(kind int, way []api.Step, node, old api.Node) api.Edit {
	return api.Edit{Kind: kind, Way: way, Node: node, Old: old}
}

// created, deleted and replaced are edits without what their kind has not.
func created(way []api.Step, node api.Node) api.Edit {
	return full(api.Create, way, node, api.Node{})
}

func deleted(way []api.Step, old api.Node) api.Edit {
	return full(api.Delete, way, api.Node{}, old)
}

func replaced(way []api.Step, node, old api.Node) api.Edit {
	return full(api.Replace, way, node, old)
}

// fine is edits that may be put, of each kind.
func fine() []api.Edit {
	return []api.Edit{
		created(way("port[a]"), box("port[a]", leaf("up", 1), text("default", "be"))), deleted(way("up"), leaf("up", 0)), replaced(way("system"), text("system", "b"), text("system", "a")),
	}
}

// wantCheck asks of Check whether edits may be put, and of Put whether it says so too; alone, and ahead of, between and behind others.
func wantCheck(t *testing.T, x api.Edit, want bool) {
	t.Helper()
	if modelCheck(x) != want {
		t.Errorf("the model says %v of %s", !want, short(show([]api.Edit{x})))
	}
	l := fine()
	for _, l := range [][]api.Edit{{x}, {x, l[0]}, {l[1], x}, {l[0], l[1], x, l[2]}, {l[2], l[1], l[0], x}, {x, x}} {
		if edits.Check(l) != want {
			t.Errorf("Check is %v of %d edits with %s", !want, len(l), short(show([]api.Edit{x})))
		}
		if b, err := edits.Put(l); err == api.ErrArg == want || err != api.OK && len(b) > 0 {
			t.Errorf("%d bytes, error %d of %d edits with %s", len(b), err, len(l), short(show([]api.Edit{x})))
		}
	}
}

// wantPut asks for the bytes of edits, that Check accepts them, and that Get gets them back.
func wantPut(t *testing.T, l []api.Edit, want []byte) {
	t.Helper()
	if model, err := modelPut(l); err != api.OK || !bytes.Equal(model, want) {
		t.Errorf("the model is %v, error %d, not %v of %s", model, err, want, short(show(l)))
	}
	if !edits.Check(l) {
		t.Errorf("Check refuses %s", short(show(l)))
	}
	b, err := edits.Put(l)
	if err != api.OK || !bytes.Equal(b, want) {
		t.Errorf("%v, error %d, want %v of %s", b, err, want, short(show(l)))
	}
	wantGet(t, want, l)
}

// wantGet asks for the edits of bytes, and that Put makes the bytes of them.
func wantGet(t *testing.T, b []byte, want []api.Edit) {
	t.Helper()
	l, err := edits.Get(b)
	if err != api.OK || show(l) != show(want) {
		t.Errorf("error %d,\n%s want\n%s of %v", err, short(show(l)), short(show(want)), b)
		return
	}
	if again, err := edits.Put(l); err != api.OK || !bytes.Equal(again, b) {
		t.Errorf("%v, error %d, became %v", b, err, again)
	}
}

// wantError asks for an error of bytes, and no edits.
func wantError(t *testing.T, b []byte, want api.Errno) {
	t.Helper()
	if l, err := edits.Get(b); err != want || len(l) > 0 {
		t.Errorf("%d edits, error %d, want %d of %v", len(l), err, want, b)
	}
}

// wantModel asks of bytes what the model says.
func wantModel(t *testing.T, b []byte) api.Errno {
	t.Helper()
	l, err := modelGet(b)
	if err == api.OK {
		wantGet(t, b, l)
	} else {
		wantError(t, b, err)
	}
	return err
}

// wantModelPut asks of edits what the model says.
func wantModelPut(t *testing.T, l []api.Edit) api.Errno {
	t.Helper()
	want, wantErr := modelPut(l)
	b, err := edits.Put(l)
	if err != wantErr || !bytes.Equal(b, want) {
		t.Errorf("%v, error %d, want %v, error %d of %s", b, err, want, wantErr, short(show(l)))
	}
	if edits.Check(l) != (wantErr != api.ErrArg) {
		t.Errorf("Check is %v, though the error is %d of %s", edits.Check(l), wantErr, short(show(l)))
	}
	if wantErr == api.OK {
		wantGet(t, want, l)
	}
	return wantErr
}

func TestExample(t *testing.T) { // P18.1, P18.2
	up := api.Node{Name: "up", Val: api.Val{Kind: api.Bool}}
	b := []byte{5, 15, 2, 3, '/', 'u', 'p', 5, 8, 0, 2, 'u', 'p', 4, 2, 3, 0}
	wantPut(t, []api.Edit{{Kind: api.Delete, Way: []api.Step{{Name: "up"}}, Old: up}}, b)
}

func TestNone(t *testing.T) { // P18.1, P18.2
	for _, l := range [][]api.Edit{nil, {}, make([]api.Edit, 3)[:0]} {
		wantPut(t, l, nil)
	}
	for _, b := range [][]byte{nil, {}, make([]byte, 3)[:0]} {
		wantGet(t, b, nil)
	}
}

// TestKinds has one edit of each kind, and several.
func TestKinds(t *testing.T) { // P18.1, P18.2
	a, b := leaf("a", 1), text("a", "xy")
	w := []byte{2, 2, '/', 'a'}
	aItem := []byte{0, 1, 'a', 4, 3, 1, 0, 1}
	bItem := []byte{0, 1, 'a', 4, 4, 6, 1, 'x', 'y'}
	create := slices.Concat([]byte{3, 14}, w, []byte{3, 8}, aItem)
	remove := slices.Concat([]byte{5, 15}, w, []byte{5, 9}, bItem)
	replace := slices.Concat([]byte{7, 25}, w, []byte{3, 9}, bItem, []byte{5, 8}, aItem)
	wantPut(t, []api.Edit{created(way("a"), a)}, create)
	wantPut(t, []api.Edit{deleted(way("a"), b)}, remove)
	wantPut(t, []api.Edit{replaced(way("a"), b, a)}, replace)
	wantPut(t, []api.Edit{created(way("a"), a), replaced(way("a"), b, a), deleted(way("a"), b)}, slices.Concat(create, replace, remove))
	// Neither the order nor whether an edit goes somewhere plays a part.
	wantPut(t, []api.Edit{deleted(way("a"), b), deleted(way("a"), b), created(way("a"), a)}, slices.Concat(remove, remove, create))
	for _, x := range fine() {
		wantCheck(t, x, true)
	}
}

// TestBytes compares byte by byte.
func TestBytes(t *testing.T) { // P18.1, P18.2
	w := []byte{2, 2, '/', 'a'}
	for _, c := range []struct {
		n    api.Node
		want []byte
	}{
		{api.Node{}, []byte{0, 0}},
		{box("a"), []byte{0, 1, 'a'}},
		{box("a[k]"), []byte{0, 1, 'a', 2, 1, 'k'}},
		{box("[k]"), []byte{0, 0, 2, 1, 'k'}},
		{api.Node{Name: "\x00\xff", Key: "[/ "}, []byte{0, 2, 0, 255, 2, 3, '[', '/', ' '}},
		{leaf("a", 0), []byte{0, 1, 'a', 4, 2, 1, 0}},
		{leaf("a[k]", 0), []byte{0, 1, 'a', 2, 1, 'k', 4, 2, 1, 0}},
		{leaf("", 1), []byte{0, 0, 4, 3, 1, 0, 1}},
		{leaf("a", 255), []byte{0, 1, 'a', 4, 3, 1, 0, 255}},
		{leaf("a", 256), []byte{0, 1, 'a', 4, 4, 1, 0, 1, 0}},
		{leaf("a", 1<<16), []byte{0, 1, 'a', 4, 5, 1, 0, 1, 0, 0}},
		{leaf("a", math.MaxUint32), []byte{0, 1, 'a', 4, 6, 1, 0, 255, 255, 255, 255}},
		{leaf("a", 1<<56), []byte{0, 1, 'a', 4, 10, 1, 0, 1, 0, 0, 0, 0, 0, 0, 0}},
		{leaf("a", math.MaxUint64), []byte{0, 1, 'a', 4, 10, 1, 0, 255, 255, 255, 255, 255, 255, 255, 255}},
		{text("a", ""), []byte{0, 1, 'a', 4, 2, 6, 0}},
		{text("a", "b"), []byte{0, 1, 'a', 4, 3, 6, 1, 'b'}},
		{text("a[k]", "\x00"), []byte{0, 1, 'a', 2, 1, 'k', 4, 3, 6, 1, 0}},
		{text("a", "\x00\x01\xff\xc3"), []byte{0, 1, 'a', 4, 6, 6, 1, 0, 1, 255, 195}},
		{with("a", api.Val{Kind: 255}), []byte{0, 1, 'a', 4, 2, 255, 0}},
		{with("a", api.Val{Kind: 255, Num: 7}), []byte{0, 1, 'a', 4, 3, 255, 0, 7}},
		{with("a", api.Val{Kind: 7, Text: "no"}), []byte{0, 1, 'a', 4, 4, 7, 1, 'n', 'o'}},
		{box("a", leaf("b", 2)), []byte{0, 1, 'a', 7, 8, 0, 1, 'b', 4, 3, 1, 0, 2}},
		{box("a[k]", api.Node{}, api.Node{}), []byte{0, 1, 'a', 2, 1, 'k', 7, 2, 0, 0, 7, 2, 0, 0}},
		{box("a", text("c", "x"), box("b[l]"), leaf("c", 0)), []byte{0, 1, 'a', 7, 8, 0, 1, 'c', 4, 3, 6, 1, 'x', 7, 6, 0, 1, 'b', 2, 1, 'l', 7, 7, 0, 1, 'c', 4, 2, 1, 0}},
		{box("a", box("b", box("c[k]", leaf("d", 3)), box("e"))), []byte{0, 1, 'a', 7, 26, 0, 1, 'b', 7, 16, 0, 1, 'c', 2, 1, 'k', 7, 8, 0, 1, 'd', 4, 3, 1, 0, 3, 7, 3, 0, 1, 'e'}},
	} {
		for _, other := range []api.Node{{}, leaf("z", 9)} {
			wantPut(t, []api.Edit{created(way("a"), c.n)}, item(3, w, item(3, c.want)))
			wantPut(t, []api.Edit{deleted(way("a"), c.n)}, item(5, w, item(5, c.want)))
			wantPut(t, []api.Edit{replaced(way("a"), c.n, other)}, item(7, w, item(3, c.want), nodeItem(5, other)))
			wantPut(t, []api.Edit{replaced(way("a"), other, c.n)}, item(7, w, nodeItem(3, other), item(5, c.want)))
		}
	}
}

// TestWays: the way is its text, whatever the nodes are named.
func TestWays(t *testing.T) { // P18.1, P18.2
	for _, c := range []struct {
		way  []api.Step
		text string
	}{
		{way("a"), "/a"}, {way("port[a]", "up"), "/port[a]/up"}, {way("port[a]", "class[be]", "rate"), "/port[a]/class[be]/rate"}, {way("a[b]"), "/a[b]"}, {way("z-9"), "/z-9"},
		{way("a", "a", "a", "a", "a", "a"), "/a/a/a/a/a/a"}, {way("a[b]", "c", "d[e]", "f", "g[h]", "i[j]"), "/a[b]/c/d[e]/f/g[h]/i[j]"}, {slices.Repeat(way("abcdefghijkl[a-2-4-6-8-0a]"), 6), strings.Repeat("/abcdefghijkl[a-2-4-6-8-0a]", 6)},
	} {
		wantPut(t, []api.Edit{created(c.way, leaf("x", 1))}, item(3, item(2, []byte(c.text)), nodeItem(3, leaf("x", 1))))
		wantPut(t, []api.Edit{deleted(c.way, box("y"))}, item(5, item(2, []byte(c.text)), nodeItem(5, box("y"))))
		wantPut(t, []api.Edit{replaced(c.way, box("x"), box("y"))}, item(7, item(2, []byte(c.text)), nodeItem(3, box("x")), nodeItem(5, box("y"))))
		wantCheck(t, created(c.way, leaf("x", 1)), true)
	}
}

// TestLengths: lengths of one and of two bytes.
func TestLengths(t *testing.T) { // P18.1, P18.2
	for _, size := range []int{0, 1, 113, 114, 115, 116, 117, 118, 119, 120, 121, 122, 123, 124, 125, 126, 127, 128, 129, 255, 256, 1000, 4000} {
		s := strings.Repeat("s", size)
		for _, n := range []api.Node{{Name: s}, {Name: "a", Key: s}, text("a", s), box("a", text("b", s)), {Name: s, Kids: []api.Node{box("a[" + s + "]")}}} {
			for _, l := range [][]api.Edit{{created(way("a"), n)}, {deleted(way("a"), n)}, {replaced(way("a"), n, box("a"))}, {replaced(way("a"), box("a"), n)}} {
				want, err := modelPut(l)
				if err != api.OK {
					t.Fatalf("error %d of a text of %d", err, size)
				}
				wantPut(t, l, want)
			}
		}
	}
}

// otherKinds is numbers of no kind of edits.
var otherKinds = []int{0, 4, 5, -1, -2, -3, 7, 255, 256, 257, 258, 259, 1<<16 + 1, 1<<32 + 2, math.MaxInt, math.MaxInt - 1, math.MinInt, math.MinInt + 1, math.MinInt + 2, math.MinInt + 3}

// TestOtherKinds: a Kind alone is wrong.
func TestOtherKinds(t *testing.T) { // P18.1
	for _, kind := range otherKinds {
		wantCheck(t, full(kind, way("a"), api.Node{}, api.Node{}), false)
		wantCheck(t, full(kind, way("a"), leaf("a", 1), api.Node{}), false)
		wantCheck(t, full(kind, way("a"), api.Node{}, leaf("a", 1)), false)
		wantCheck(t, full(kind, way("a"), leaf("a", 1), leaf("a", 2)), false)
	}
	// No node need be anything but the zero one.
	for kind := 1; kind <= 3; kind++ {
		wantCheck(t, full(kind, way("a"), api.Node{}, api.Node{}), true)
		wantCheck(t, full(kind, way("a"), api.Node{Kids: []api.Node{}}, api.Node{Kids: []api.Node{}}), true)
	}
}

// TestOtherWays: a Way alone is wrong.
func TestOtherWays(t *testing.T) { // P18.1
	for _, w := range [][]api.Step{
		nil, {}, way("a")[:0], // no steps
		way("a", "a", "a", "a", "a", "a", "a"), slices.Repeat(way("a[b]"), 8), slices.Repeat(way("a"), 1000), // too many
		way(""), way("A"), way("1"), way("-"), way("a_"), way("a b"), way("\xff"), way("ä"), way("abcdefghijklm"), {{Name: "a/b"}}, {{Name: "a[b]"}}, {{Name: "/a"}}, {{Name: "a/"}}, {{}}, {{Key: "a"}}, // names
		way("a[A]"), way("a[1]"), way("a[ ]"), way("a[\x00]"), way("a[abcdefghijklm]"), {{Name: "a", Key: "b]"}}, {{Name: "a", Key: "[b]"}}, {{Name: "a", Key: "b]/c[d"}}, // keys
		way("a", ""), way("", "a"), way("a", "b", "C"), way("a", "B", "c"), way("a", "b", "c", "d", "e", "f[G]"), way("a[1]", "b"), way("a", "b[c]", "d[-]", "e"),
	} {
		wantCheck(t, created(w, leaf("a", 1)), false)
		wantCheck(t, deleted(w, leaf("a", 1)), false)
		wantCheck(t, replaced(w, leaf("a", 1), leaf("a", 2)), false)
	}
	for _, w := range [][]api.Step{way("a"), way("a[b]"), way("a", "b", "c", "d", "e", "f"), way("abcdefghijkl[abcdefghijkl]")} {
		wantCheck(t, created(w, leaf("a", 1)), true)
		wantCheck(t, deleted(w, leaf("a", 1)), true)
		wantCheck(t, replaced(w, leaf("a", 1), leaf("a", 2)), true)
	}
}

// TestNotZero: a Node of a Delete, and an Old of a Create, have something, that would go elsewhere.
func TestNotZero(t *testing.T) { // P18.1
	for _, n := range []api.Node{
		{Name: "a"}, {Name: "\x00"}, {Key: "a"}, {Key: "\x00"}, {Val: api.Val{Kind: 1}}, {Val: api.Val{Kind: 255}}, {Kids: []api.Node{{}}}, {Kids: []api.Node{leaf("a", 1)}}, {Kids: []api.Node{{}, {}}}, {Val: api.Val{Kind: 1, Num: 1}}, {Val: api.Val{Kind: 1, Text: "a"}}, box("a"), leaf("a", 1),
	} {
		for _, other := range []api.Node{{}, leaf("a", 1), box("a", leaf("b", 1)), n} {
			wantCheck(t, full(api.Delete, way("a"), n, other), false)
			wantCheck(t, full(api.Create, way("a"), other, n), false)
			wantCheck(t, replaced(way("a"), n, other), true)
			wantCheck(t, replaced(way("a"), other, n), true)
		}
		wantCheck(t, created(way("a"), n), true)
		wantCheck(t, deleted(way("a"), n), true)
	}
	// These are no nodes that could go anywhere.
	for _, n := range []api.Node{{Val: api.Val{Num: 1}}, {Val: api.Val{Text: "a"}}, {Val: api.Val{Kind: -1}}} {
		wantCheck(t, full(api.Delete, way("a"), n, leaf("a", 1)), false)
		wantCheck(t, full(api.Create, way("a"), leaf("a", 1), n), false)
	}
	empty := api.Node{Kids: make([]api.Node, 1)[:0]}
	wantCheck(t, full(api.Delete, way("a"), empty, leaf("a", 1)), true)
	wantCheck(t, full(api.Create, way("a"), leaf("a", 1), empty), true)
}

// around is trees that have a node: at the top, as a kid among others, and further down.
func around(n api.Node) []api.Node {
	l := []api.Node{n, box("a", n), box("a", n, leaf("b", 1)), box("a", leaf("b", 1), n), box("a[k]", leaf("b", 1), n, text("c", "x")), box("a", box("b", n)), box("a", leaf("a", 1), box("b", box("x"), n), text("z", "x")), box("a", box("b", box("c", n), box("d")))}
	deep := n
	for range 40 {
		deep = box("d", leaf("a", 1), deep)
	}
	return append(l, deep)
}

// wantNode asks of Check whether a node may be put, wherever it is.
func wantNode(t *testing.T, n api.Node, want bool) {
	t.Helper()
	for _, n := range around(n) {
		wantCheck(t, created(way("a"), n), want)
		wantCheck(t, deleted(way("a"), n), want)
		wantCheck(t, replaced(way("a"), n, leaf("a", 1)), want)
		wantCheck(t, replaced(way("a"), leaf("a", 1), n), want)
		wantCheck(t, replaced(way("a"), api.Node{}, n), want)
	}
}

// TestNodes: one node that is wrong, in one thing alone, wherever it is.
func TestNodes(t *testing.T) { // P18.1
	for _, kind := range []int{-1, -2, -255, -256, 256, 257, 511, 512, 1 << 16, 1<<16 + 1, 1<<32 + 1, math.MaxInt, math.MinInt, math.MinInt + 1} {
		wantNode(t, with("a", api.Val{Kind: kind}), false)
		wantNode(t, with("a", api.Val{Kind: kind, Num: 1}), false)
		wantNode(t, with("a", api.Val{Kind: kind, Text: "x"}), false)
	}
	for _, kind := range []int{1, 2, 3, 4, 5, 6, 7, 8, 127, 128, 254, 255} {
		wantNode(t, with("a", api.Val{Kind: kind}), true)
		wantNode(t, with("a[k]", api.Val{Kind: kind, Num: math.MaxUint64}), true)
		wantNode(t, with("a", api.Val{Kind: kind, Text: "x"}), true)
		for _, num := range []uint64{1, 2, 255, 256, 1 << 32, 1 << 63, math.MaxUint64} {
			wantNode(t, with("a", api.Val{Kind: kind, Num: num, Text: "x"}), false)
			wantNode(t, with("a", api.Val{Kind: kind, Num: num, Text: "\x00"}), false)
		}
		for _, kid := range []api.Node{{}, leaf("b", 1), box("b", leaf("c", 1))} {
			for _, v := range []api.Val{{Kind: kind}, {Kind: kind, Num: 1}, {Kind: kind, Text: "x"}} {
				n := with("a", v)
				n.Kids = []api.Node{kid}
				wantNode(t, n, false)
				n.Kids = []api.Node{kid, kid}
				wantNode(t, n, false)
				n.Kids = n.Kids[:0]
				wantNode(t, n, true)
			}
		}
	}
	for _, v := range []api.Val{{Num: 1}, {Num: 1 << 32}, {Num: math.MaxUint64}, {Text: "x"}, {Text: "\x00"}, {Num: 1, Text: "x"}} {
		wantNode(t, with("a", v), false)
		wantNode(t, with("", v), false)
		n := with("a[k]", v)
		n.Kids = []api.Node{leaf("b", 1)}
		wantNode(t, n, false)
	}
	for _, n := range []api.Node{{}, box("a"), box("[k]"), box("\xff[\x00]"), box("A B[/]"), box("", leaf("", 1), leaf("", 1)), box("b", leaf("b", 1), leaf("a", 1), box("a"))} {
		wantNode(t, n, true)
	}
}

// chain is a tree of so many levels, each with one kid.
func chain(levels int, end api.Node) api.Node {
	for range levels - 1 {
		end = box("c", end)
	}
	return end
}

// wantBig asks Put to refuse edits that Check accepts.
func wantBig(t *testing.T, l []api.Edit) {
	t.Helper()
	if _, err := modelPut(l); err != api.ErrBig {
		t.Errorf("the model's error is %d of %s", err, short(show(l)))
	}
	if b, err := edits.Put(l); err != api.ErrBig || len(b) > 0 {
		t.Errorf("%d bytes, error %d of %s", len(b), err, short(show(l)))
	}
	if !edits.Check(l) {
		t.Errorf("Check refuses %s", short(show(l)))
	}
}

// TestDeep: items that are too deep, and just not.
func TestDeep(t *testing.T) { // P18.1, P18.2
	for _, end := range []api.Node{{}, box("e"), box("e[k]"), leaf("e", 1), text("e[k]", "x")} {
		for size := 1; size < 9; size++ {
			n := chain(size, end)
			for _, n := range []api.Node{n, {Name: "a", Kids: append([]api.Node{leaf("a", 1)}, n.Kids...)}, {Name: "a", Kids: append(slices.Clone(n.Kids), box("z"))}} {
				for _, l := range [][]api.Edit{
					{created(way("a"), n)}, {deleted(way("a"), n)}, {replaced(way("a"), n, leaf("a", 1))}, {replaced(way("a"), leaf("a", 1), n)}, append(fine(), created(way("a"), n)), append([]api.Edit{deleted(way("a"), n)}, fine()...),
				} {
					if levels(n) > 4 {
						wantBig(t, l)
						continue
					}
					want, _ := modelPut(l)
					wantPut(t, l, want)
				}
			}
		}
	}
	// The way's depth plays no part.
	wantPut(t, []api.Edit{created(slices.Repeat(way("a"), 6), chain(4, api.Node{}))}, slices.Concat([]byte{3, 33, 2, 12}, []byte("/a/a/a/a/a/a"), []byte{3, 17, 0, 1, 'c', 7, 12, 0, 1, 'c', 7, 7, 0, 1, 'c', 7, 2, 0, 0}))
}

// TestLong: items that are too long, and just not.
func TestLong(t *testing.T) { // P18.1, P18.2
	of := map[string]func(s string) []api.Edit{
		"name":  func(s string) []api.Edit { return []api.Edit{created(way("a"), api.Node{Name: s})} },
		"key":   func(s string) []api.Edit { return []api.Edit{deleted(way("a"), api.Node{Key: s})} },
		"text":  func(s string) []api.Edit { return []api.Edit{replaced(way("a"), leaf("a", 1), text("a", s))} },
		"deep":  func(s string) []api.Edit { return []api.Edit{created(way("a"), chain(4, text("a", s)))} },
		"last":  func(s string) []api.Edit { return append(fine(), created(way("a"), box(s))) },
		"first": func(s string) []api.Edit { return append([]api.Edit{created(way("a"), box(s))}, fine()...) },
	}
	for name, edit := range of {
		base, _ := modelPut(edit(strings.Repeat("s", 8000)))
		room := 8192 - len(base)
		for more := -3; more < 20; more++ {
			l := edit(strings.Repeat("s", 8000+room+more))
			if more > 0 {
				wantBig(t, l)
				continue
			}
			want, err := modelPut(l)
			if err != api.OK || len(want) != 8192+more {
				t.Fatalf("%s: %d bytes, error %d", name, len(want), err)
			}
			wantPut(t, l, want)
		}
	}
	// Many edits, and many kids.
	small := created(way("a"), api.Node{}) // 10 bytes
	count := 8192 / 10
	l := slices.Repeat([]api.Edit{small}, count)
	want, _ := modelPut(l)
	wantPut(t, l, want)
	wantBig(t, append(l, small))
	wantBig(t, slices.Repeat([]api.Edit{small}, 100000))
	kids := make([]api.Node, 2044) // 4 bytes each, and 13 around them
	wide := []api.Edit{created(way("a"), box("a", kids...))}
	wantPut(t, wide, slices.Concat([]byte{3, 0xfa, 0x3f, 2, 2, '/', 'a', 3, 0xf3, 0x3f, 0, 1, 'a'}, bytes.Repeat([]byte{7, 2, 0, 0}, 2044)))
	wide[0].Node.Kids = append(kids, api.Node{})
	wantBig(t, wide)
}

// TestFirstError: what is wrong is told ahead of what is too great.
func TestFirstError(t *testing.T) { // P18.1
	big := created(way("a"), box(strings.Repeat("s", 9000)))
	deep := created(way("a"), chain(5, leaf("a", 1)))
	for _, bad := range []api.Edit{{}, created(nil, leaf("a", 1)), full(4, way("a"), leaf("a", 1), leaf("a", 1)), created(way("A"), leaf("a", 1)), created(way("a"), with("a", api.Val{Kind: 256})), deleted(way("a"), with("a", api.Val{Num: 1})), created(way("a"), chain(9, with("a", api.Val{Text: "a"})))} {
		for _, l := range [][]api.Edit{{big, bad}, {bad, big}, {deep, bad}, {bad, deep}, {deep, big, bad}} {
			if b, err := edits.Put(l); err != api.ErrArg || len(b) > 0 || edits.Check(l) {
				t.Errorf("%d bytes, error %d of %s", len(b), err, short(show(l)))
			}
		}
	}
	wantBig(t, []api.Edit{big, deep})
	wantBig(t, []api.Edit{deep})
	wantBig(t, []api.Edit{big})
}

// TestOnlyItems: what Put answers is what tlv makes of the items.
func TestOnlyItems(t *testing.T) { // P18.1
	for _, l := range [][]api.Edit{fine(), {created(way("a"), chain(4, text("a", strings.Repeat("s", 300))))}, {}} {
		b, err := edits.Put(l)
		items, errOf, _ := tlv.Get(b)
		again, errAgain := tlv.Put(items)
		if err != api.OK || errOf != api.OK || errAgain != api.OK || !bytes.Equal(b, again) || len(items) != len(l) {
			t.Errorf("errors %d, %d and %d, %d items of %d edits", err, errOf, errAgain, len(items), len(l))
		}
		for i, x := range l {
			if items[i].Tag != uint64(2*x.Kind+1) || string(items[i].Kids[0].Data) != "/"+strings.Join(texts(x.Way), "/") {
				t.Errorf("item %d is %s", i, strconv.FormatUint(items[i].Tag, 10))
			}
		}
	}
}

// texts is the short texts of steps.
func texts(way []api.Step) []string {
	var l []string
	for _, s := range way {
		if s.Key != "" {
			s.Name += "[" + s.Key + "]"
		}
		l = append(l, s.Name)
	}
	return l
}

// TestDeepest has as many levels as the document allows.
func TestDeepest(t *testing.T) { // P18.1
	n := chain(1<<16-1, leaf("e", 1))
	for _, l := range [][]api.Edit{{created(way("a"), n)}, {deleted(way("a"), n)}, {replaced(way("a"), n, n)}} {
		if b, err := edits.Put(l); !edits.Check(l) || err != api.ErrBig || len(b) > 0 {
			t.Errorf("%d bytes, error %d, Check %v", len(b), err, edits.Check(l))
		}
	}
	n = chain(1<<16-1, with("e", api.Val{Kind: 256}))
	for _, l := range [][]api.Edit{{created(way("a"), n)}, {deleted(way("a"), n)}, {replaced(way("a"), leaf("a", 1), n)}} {
		if b, err := edits.Put(l); edits.Check(l) || err != api.ErrArg || len(b) > 0 {
			t.Errorf("%d bytes, error %d, Check %v", len(b), err, edits.Check(l))
		}
	}
}

// TestWide has more nodes, and more edits, than bytes may be of.
func TestWide(t *testing.T) { // P18.1
	kids := slices.Repeat([]api.Node{leaf("a", 1)}, 200000)
	l := []api.Edit{created(way("a"), box("a", kids...))}
	wantBig(t, l)
	kids[len(kids)-1].Val.Kind = -1
	if _, err := edits.Put(l); edits.Check(l) || err != api.ErrArg {
		t.Errorf("error %d", err)
	}
	many := slices.Repeat([]api.Edit{deleted(way("a"), leaf("a", 1))}, 200000)
	wantBig(t, many)
	many[len(many)-1].Kind = 1
	if _, err := edits.Put(many); edits.Check(many) || err != api.ErrArg {
		t.Errorf("error %d", err)
	}
}
