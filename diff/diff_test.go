package diff_test

import (
	"math"
	"slices"
	"strconv"
	"strings"
	"testing"

	"tollbar/api"
	"tollbar/diff"
	"tollbar/tree"
)

// The calls of the chapter, with just these signatures.
var (
	_ func(a, b api.Node) []api.Edit   = diff.Edits
	_ func([]api.Edit) []api.Edit      = diff.Inverse
	_ func([]api.Edit, []api.Step) int = diff.Under
	_ func(a, b []api.Edit) bool       = diff.Same
)

// step is the step of a short text: a name, or a name and a key in brackets.
func step(s string) api.Step {
	name, key, _ := strings.Cut(strings.TrimSuffix(s, "]"), "[")
	return api.Step{Name: name, Key: key}
}

// way is the steps of short texts.
func way(steps ...string) []api.Step {
	var l []api.Step
	for _, s := range steps {
		l = append(l, step(s))
	}
	return l
}

// box is a node that is no leaf, leaf, text and with ones that are.
func box(s string, kids ...api.Node) api.Node {
	return api.Node{Name: step(s).Name, Key: step(s).Key, Kids: kids}
}

func leaf(s string, num uint64) api.Node {
	return with(s, api.Val{Kind: api.Uint, Num: num})
}

func text(s, of string) api.Node {
	return with(s, api.Val{Kind: api.Ref, Text: of})
}

func with(s string, v api.Val) api.Node {
	n := box(s)
	n.Val = v
	return n
}

// created, deleted and replaced are the edits of the chapter's words.
func created(way []api.Step, node api.Node) api.Edit {
	return api.Edit{Kind: api.Create, Way: way, Node: node}
}

func deleted(way []api.Step, old api.Node) api.Edit {
	return api.Edit{Kind: api.Delete, Way: way, Old: old}
}

func replaced(way []api.Step, node, old api.Node) api.Edit {
	return api.Edit{Kind: api.Replace, Way: way, Node: node, Old: old}
}

// class, port and example are trees of version 3, made anew for each call.
func class(key string, depth uint64) api.Node {
	return box("class["+key+"]", leaf("burst", 3000), leaf("depth", depth), leaf("quantum", 1500),
		with("rate", api.Val{Kind: api.Rate, Num: 1000}), with("shaped", api.Val{Kind: api.Bool, Num: 1}))
}

func rule(key, class string, low, high uint64) api.Node {
	return box("rule["+key+"]", text("class", class), leaf("high", high), leaf("low", low))
}

func port(key string, kids ...api.Node) api.Node { return box("port["+key+"]", kids...) }

func example() api.Node {
	return box("", port("a", class("be", 8), class("gold", 4), text("default", "be"), rule("r", "gold", 10, 19)),
		port("b", class("x", 1), text("default", "x")), with("system", api.Val{Kind: api.Ident, Text: "core"}))
}

// changed is a tree of which the node at a way is another one.
func changed(t *testing.T, n api.Node, x api.Node, way ...api.Step) api.Node {
	t.Helper()
	n, err := tree.Set(n, way, x)
	if err != api.OK {
		t.Fatalf("%q cannot be set", way)
	}
	return n
}

// without is a tree without the node at a way.
func without(t *testing.T, n api.Node, way ...api.Step) api.Node {
	t.Helper()
	n, err := tree.Cut(n, way)
	if err != api.OK {
		t.Fatalf("%q cannot be cut", way)
	}
	return n
}

// wantEdits asks for the edits between two trees, and for what follows from them.
func wantEdits(t *testing.T, a, b api.Node, want ...api.Edit) {
	t.Helper()
	l := diff.Edits(a, b)
	if show(l) != show(want) {
		t.Errorf("Edits(%s, %s) =\n%swant\n%s", short(showNode(a)), short(showNode(b)), short(show(l)), short(show(want)))
		return
	}
	wantRound(t, a, b, l)
}

// wantRound asks whether edits turn a tree into another one, and their inverse turns it back.
func wantRound(t *testing.T, a, b api.Node, l []api.Edit) {
	t.Helper()
	if !tree.Right(a) || !tree.Right(b) || a.Val.Kind != api.None || b.Val.Kind != api.None {
		t.Fatalf("no edits of %s, %s are promised", short(showNode(a)), short(showNode(b)))
	}
	if back := diff.Edits(b, a); len(back) != len(l) {
		t.Errorf("%d edits there, %d back:\n%sand\n%s", len(l), len(back), short(show(l)), short(show(back)))
	}
	a.Name, a.Key = b.Name, b.Key // no edit is of the root itself
	if n, ok := applied(a, l); !ok || showNode(n) != showNode(b) {
		t.Errorf("%s does not become %s by\n%s", short(showNode(a)), short(showNode(b)), short(show(l)))
	}
	if n, ok := applied(b, diff.Inverse(l)); !ok || showNode(n) != showNode(a) {
		t.Errorf("%s does not become %s by the inverse of\n%s", short(showNode(b)), short(showNode(a)), short(show(l)))
	}
	if !diff.Same(diff.Inverse(diff.Inverse(l)), l) {
		t.Errorf("the inverse of the inverse is not\n%s", short(show(l)))
	}
}

// wantModel asks for what the chapter says of the edits between two trees, there and back.
func wantModel(t *testing.T, a, b api.Node) {
	t.Helper()
	wantEdits(t, a, b, modelEdits(tableOf(a), tableOf(b))...)
	wantEdits(t, b, a, modelEdits(tableOf(b), tableOf(a))...)
}

func TestExample(t *testing.T) { // P16.1
	up := leaf("up", 1)
	wantEdits(t, api.Node{}, box("", up), created(way("up"), up))
}

// roots is empty trees, of other names and with other empty lists too.
func roots() []api.Node {
	return []api.Node{{}, {Kids: []api.Node{}}, {Kids: make([]api.Node, 0, 4)}, box("a"), box("a[k]"), box("b[\xff]"), {Key: "k"}}
}

func TestNoEdits(t *testing.T) { // P16.1, P16.3
	for _, a := range roots() {
		for _, b := range roots() {
			wantEdits(t, a, b)
		}
	}
	for _, fresh := range []func() api.Node{
		example,
		func() api.Node { return box("", leaf("a", 1)) },
		func() api.Node { return box("", box("a")) },
		func() api.Node { return box("x[y]", box("a[b]"), box("a[c]", leaf("", 2)), text("d", "e")) },
		func() api.Node { return box("", box("a", box("b", box("c", box("d", leaf("e", 1)))))) },
	} {
		n := fresh()
		wantEdits(t, n, n)
		wantEdits(t, n, fresh())
	}
}

// nodes is nodes of each kind, of one step.
func nodes(s string) []api.Node {
	l := []api.Node{
		box(s), box(s, leaf("a", 1)), box(s, box("a")), box(s, box("a[b]")), box(s, leaf("a", 1), box("b", text("c", "d")), leaf("c[d]", 2)),
		box(s, box("a", box("b", box("c[k]", box("d", leaf("e", 1)))))), {Name: step(s).Name, Key: step(s).Key, Kids: []api.Node{}},
	}
	for _, v := range vals {
		l = append(l, with(s, v))
	}
	return l
}

// vals is values of leaves, of Kinds that there are none of too; they differ in one thing or in several.
var vals = []api.Val{
	{Kind: api.Uint}, {Kind: api.Uint, Num: 1}, {Kind: api.Uint, Num: 1 << 32}, {Kind: api.Uint, Num: math.MaxUint64}, {Kind: api.Rate}, {Kind: api.Rate, Num: 1}, {Kind: api.Bool}, {Kind: api.Bool, Num: 1},
	{Kind: api.Enum, Text: "a"}, {Kind: api.Ident, Text: "a"}, {Kind: api.Ident, Text: "b"}, {Kind: api.Ident, Text: "ab"}, {Kind: api.Ref, Text: "a"}, {Kind: api.Ref, Text: "a", Num: 1}, {Kind: api.Uint, Text: "a"},
	{Kind: api.Ref + 1}, {Kind: 100, Num: 1, Text: "a"}, {Kind: 257}, {Kind: 1 << 32}, {Kind: math.MaxInt}, {Kind: -1}, {Kind: math.MinInt}, {Kind: -1, Num: 1}, {Kind: -1, Text: "\xff"}, {Kind: -1, Text: "\x00"},
}

// around is a tree in which a node stands alone, first, between others, and last, if it is named m.
func around(n api.Node) []api.Node {
	return []api.Node{box("", n), box("", n, leaf("z", 1)), box("", leaf("a", 1), n, box("z")), box("", box("a", leaf("m", 1)), n)}
}

// TestOneNode: each kind of node from nothing, and back.
func TestOneNode(t *testing.T) { // P16.1, P16.2, P16.3
	for _, s := range []string{"m", "m[k]", "m[\xff]"} {
		others := around(box(s))
		for _, n := range nodes(s) {
			for i, full := range around(n) {
				empty := without(t, others[i], step(s))
				wantEdits(t, empty, full, created(way(s), n))
				wantEdits(t, full, empty, deleted(way(s), n))
				wantEdits(t, full, full)
			}
		}
	}
	// A root's own name plays no part.
	wantEdits(t, box("a"), box("b[k]", leaf("x", 1)), created(way("x"), leaf("x", 1)))
	wantEdits(t, box("a[k]", leaf("x", 1)), box("a"), deleted(way("x"), leaf("x", 1)))
	// The empty step is one like any.
	wantEdits(t, api.Node{}, box("", api.Node{}), created(way(""), api.Node{}))
	wantEdits(t, box("", leaf("", 1)), api.Node{}, deleted(way(""), leaf("", 1)))
	wantEdits(t, box("", box("", box(""))), box("", box("", leaf("", 1))), deleted(way("", ""), box("")), created(way("", ""), leaf("", 1)))
}

// pick is a box with those of some kids whose bits are set.
func pick(s string, kids []api.Node, bits int) api.Node {
	n := box(s)
	for i, kid := range kids {
		if bits>>i%2 == 1 {
			n.Kids = append(n.Kids, kid)
		}
	}
	return n
}

// TestOneSide: kids that only one of both has, wherever they stand, on either side.
func TestOneSide(t *testing.T) { // P16.1, P16.3
	kids := []api.Node{leaf("a", 1), box("b", leaf("x", 1)), box("b[k]"), text("c", "d"), class("e", 2)}
	for was := range 1 << len(kids) {
		for is := range 1 << len(kids) {
			var want, below []api.Edit
			for i, kid := range kids {
				step := api.Step{Name: kid.Name, Key: kid.Key}
				switch {
				case was>>i%2 == 1 && is>>i%2 == 0:
					want = append(want, deleted([]api.Step{step}, kid))
					below = append(below, deleted([]api.Step{{Name: "m", Key: "k"}, step}, kid))
				case was>>i%2 == 0 && is>>i%2 == 1:
					want = append(want, created([]api.Step{step}, kid))
					below = append(below, created([]api.Step{{Name: "m", Key: "k"}, step}, kid))
				}
			}
			wantEdits(t, pick("", kids, was), pick("", kids, is), want...)
			for i, a := range around(pick("m[k]", kids, was)) {
				wantEdits(t, a, around(pick("m[k]", kids, is))[i], below...)
			}
		}
	}
}

// TestLeaves: leaves that both have.
func TestLeaves(t *testing.T) { // P16.1, P16.3
	for i, old := range vals {
		for j, val := range vals {
			for _, s := range []string{"m", "m[k]"} {
				a, b := with(s, old), with(s, val)
				var want, deep []api.Edit
				if i != j {
					want = append(want, replaced(way(s), b, a))
					deep = append(deep, replaced(way("p[q]", "r", s), b, a))
				}
				for k, full := range around(a) {
					wantEdits(t, full, around(b)[k], want...)
					wantEdits(t, box("", box("p[q]", box("r", full.Kids...))), box("", box("p[q]", box("r", around(b)[k].Kids...))), deep...)
				}
			}
		}
	}
	// A leaf's empty list of kids is like none.
	a, b := leaf("m", 1), leaf("m", 1)
	a.Kids = make([]api.Node, 0, 3)
	wantEdits(t, box("", a), box("", b))
	wantEdits(t, box("", b), box("", a))
	b.Val.Num = 2
	wantEdits(t, box("", a), box("", b), replaced(way("m"), leaf("m", 2), leaf("m", 1)))
	wantEdits(t, box("", b), box("", a), replaced(way("m"), leaf("m", 1), leaf("m", 2)))
}

// TestLeafAndBox: a leaf where the other tree has a box or a list item of the same step.
func TestLeafAndBox(t *testing.T) { // P16.1, P16.3
	for _, s := range []string{"m", "m[k]"} {
		for _, a := range nodes(s) {
			for _, b := range nodes(s) {
				if (a.Val.Kind == api.None) == (b.Val.Kind == api.None) {
					continue
				}
				for i, full := range around(a) {
					wantEdits(t, full, around(b)[i], deleted(way(s), a), created(way(s), b))
				}
				wantEdits(t, box("", box("p[q]", a, leaf("x", 1)), leaf("s", 1)), box("", box("p[q]", b, leaf("x", 2)), leaf("s", 2)),
					deleted(way("p[q]", s), a), created(way("p[q]", s), b), replaced(way("p[q]", "x"), leaf("x", 2), leaf("x", 1)), replaced(way("s"), leaf("s", 2), leaf("s", 1)))
			}
		}
	}
	// Several of them, beside one another and beside other edits.
	wantEdits(t, box("", leaf("a", 1), box("b", leaf("x", 1)), leaf("c", 1), box("e")), box("", box("a", leaf("y", 1)), leaf("b", 2), leaf("d", 1), leaf("e", 3)),
		deleted(way("a"), leaf("a", 1)), created(way("a"), box("a", leaf("y", 1))), deleted(way("b"), box("b", leaf("x", 1))), created(way("b"), leaf("b", 2)),
		deleted(way("c"), leaf("c", 1)), created(way("d"), leaf("d", 1)), deleted(way("e"), box("e")), created(way("e"), leaf("e", 3)))
}

// TestBoxes: boxes and list items that both have, which differ in one leaf or in several, deep down too.
func TestBoxes(t *testing.T) { // P16.1, P16.3
	n := example()
	gold := func(s string) []api.Step { return way("port[a]", "class[gold]", s) }
	wantEdits(t, n, changed(t, n, leaf("depth", 5), gold("depth")...), replaced(gold("depth"), leaf("depth", 5), leaf("depth", 4)))
	several := changed(t, n, leaf("depth", 5), gold("depth")...)
	several = changed(t, several, leaf("burst", 1), gold("burst")...)
	several = changed(t, several, text("default", "gold"), way("port[a]", "default")...)
	several = changed(t, several, leaf("low", 9), way("port[a]", "rule[r]", "low")...)
	several = changed(t, several, leaf("depth", 2), way("port[b]", "class[x]", "depth")...)
	several = without(t, several, way("port[a]", "class[be]", "quantum")...)
	several = changed(t, several, leaf("wait", 7), way("wait")...)
	several = without(t, several, way("system")...)
	wantEdits(t, n, several,
		deleted(way("port[a]", "class[be]", "quantum"), leaf("quantum", 1500)),
		replaced(gold("burst"), leaf("burst", 1), leaf("burst", 3000)),
		replaced(gold("depth"), leaf("depth", 5), leaf("depth", 4)),
		replaced(way("port[a]", "default"), text("default", "gold"), text("default", "be")),
		replaced(way("port[a]", "rule[r]", "low"), leaf("low", 9), leaf("low", 10)),
		replaced(way("port[b]", "class[x]", "depth"), leaf("depth", 2), leaf("depth", 1)),
		deleted(way("system"), with("system", api.Val{Kind: api.Ident, Text: "core"})),
		created(way("wait"), leaf("wait", 7)))
	// A box all of whose kids come or go is one that both have.
	wantEdits(t, box("", box("a")), box("", box("a", leaf("x", 1), box("y", leaf("z", 1)))), created(way("a", "x"), leaf("x", 1)), created(way("a", "y"), box("y", leaf("z", 1))))
	wantEdits(t, box("", box("a[k]", leaf("x", 1), box("y", leaf("z", 1)))), box("", box("a[k]")), deleted(way("a[k]", "x"), leaf("x", 1)), deleted(way("a[k]", "y"), box("y", leaf("z", 1))))
	wantEdits(t, box("", box("a", leaf("x", 1))), box("", box("a", leaf("y", 1))), deleted(way("a", "x"), leaf("x", 1)), created(way("a", "y"), leaf("y", 1)))
}

// TestKeys: list items of the same name and other keys, and names that are one another's beginnings.
func TestKeys(t *testing.T) { // P16.1, P16.3
	wantEdits(t, box("", port("a", leaf("x", 1))), box("", port("b", leaf("x", 1))), deleted(way("port[a]"), port("a", leaf("x", 1))), created(way("port[b]"), port("b", leaf("x", 1))))
	wantEdits(t, box("", port("b", leaf("x", 1))), box("", port("a", leaf("x", 1))), created(way("port[a]"), port("a", leaf("x", 1))), deleted(way("port[b]"), port("b", leaf("x", 1))))
	wantEdits(t, box("", box("p"), port("b")), box("", box("p[b]"), box("port")), deleted(way("p"), box("p")), created(way("p[b]"), box("p[b]")), created(way("port"), box("port")), deleted(way("port[b]"), port("b")))
	wantEdits(t, box("", leaf("a", 1)), box("", leaf("a[k]", 1)), deleted(way("a"), leaf("a", 1)), created(way("a[k]"), leaf("a[k]", 1)))
	wantEdits(t, box("", leaf("ab[c]", 1)), box("", leaf("a[bc]", 1)), created(way("a[bc]"), leaf("a[bc]", 1)), deleted(way("ab[c]"), leaf("ab[c]", 1)))
	wantEdits(t, box("", port("a", leaf("x", 1)), port("b", leaf("x", 2)), port("c", leaf("x", 3))), box("", port("a", leaf("x", 1)), port("b", leaf("x", 3)), port("d", leaf("x", 3))),
		replaced(way("port[b]", "x"), leaf("x", 3), leaf("x", 2)), deleted(way("port[c]"), port("c", leaf("x", 3))), created(way("port[d]"), port("d", leaf("x", 3))))
	wantEdits(t, box("", box("", leaf("k", 1)), leaf("k", 2)), box("", leaf("[k]", 2), leaf("k", 2)), deleted(way(""), box("", leaf("k", 1))), created(way("[k]"), leaf("[k]", 2)))
}

// steps is some in increasing order, names and keys of which one is the beginning of the other, and bytes from 128 on among them.
var steps = []api.Step{
	{}, {Key: "\x00"}, {Key: "a"}, {Key: "\xff"}, {Name: "\x00"}, {Name: "-"}, {Name: "0"}, {Name: "A"}, {Name: "Z", Key: "a"}, {Name: "Zz"},
	{Name: "a"}, {Name: "a", Key: "\x00"}, {Name: "a", Key: "0"}, {Name: "a", Key: "B"}, {Name: "a", Key: "b"}, {Name: "a", Key: "b\x00"}, {Name: "a", Key: "ba"}, {Name: "a", Key: "c"}, {Name: "a", Key: "\x7f"}, {Name: "a", Key: "\x80"}, {Name: "a", Key: "\xc3\xa4"}, {Name: "a", Key: "\xff"},
	{Name: "a\x00"}, {Name: "a-"}, {Name: "aa"}, {Name: "aa", Key: "a"}, {Name: "ab"}, {Name: "b"}, {Name: "b", Key: "a"}, {Name: "class", Key: "x"}, {Name: "class-1"}, {Name: "classes"}, {Name: "z"}, {Name: "\x7f"}, {Name: "\x80"}, {Name: "\xc3\xa4"}, {Name: "\xe2\x82\xac"}, {Name: "\xff"}, {Name: "\xff", Key: "\xff"}, {Name: "\xff\x00"},
}

// TestOrder: the edits stand in the order of the steps, whatever they are.
func TestOrder(t *testing.T) { // P16.1, P16.3
	node := func(i, num int) api.Node {
		return api.Node{Name: steps[i].Name, Key: steps[i].Key, Val: api.Val{Kind: 1, Num: uint64(num)}}
	}
	for i := range steps {
		for j := range steps {
			if i < j {
				one, two := []api.Step{steps[i]}, []api.Step{steps[j]}
				wantEdits(t, api.Node{}, box("", node(i, 1), node(j, 1)), created(one, node(i, 1)), created(two, node(j, 1)))
				wantEdits(t, box("", node(i, 1)), box("", node(j, 1)), deleted(one, node(i, 1)), created(two, node(j, 1)))
				wantEdits(t, box("", node(j, 1)), box("", node(i, 1)), created(one, node(i, 1)), deleted(two, node(j, 1)))
				wantEdits(t, box("", node(i, 1), node(j, 1)), box("", node(j, 2)), deleted(one, node(i, 1)), replaced(two, node(j, 2), node(j, 1)))
				wantEdits(t, box("", node(i, 1), node(j, 1)), box("", node(i, 2)), replaced(one, node(i, 2), node(i, 1)), deleted(two, node(j, 1)))
			}
		}
	}
	// All of them: one in three on one side, one in three on the other one, one in three on both.
	for shift := range 3 {
		var a, b api.Node
		var want []api.Edit
		for i, s := range steps {
			switch (i + shift) % 3 {
			case 0:
				a.Kids = append(a.Kids, node(i, 1))
				want = append(want, deleted([]api.Step{s}, node(i, 1)))
			case 1:
				b.Kids = append(b.Kids, node(i, 2))
				want = append(want, created([]api.Step{s}, node(i, 2)))
			case 2:
				a.Kids, b.Kids = append(a.Kids, node(i, 1)), append(b.Kids, node(i, 2))
				want = append(want, replaced([]api.Step{s}, node(i, 2), node(i, 1)))
			}
		}
		wantEdits(t, a, b, want...)
	}
}

// TestWays: each way is that from the root, at each depth, ahead of what is deeper and behind it.
func TestWays(t *testing.T) { // P16.1, P16.3
	for depth := range 12 {
		var to []api.Step
		for i := range depth {
			to = append(to, api.Step{Name: "m", Key: strconv.Itoa(i + 1)})
		}
		a, b := leaf("m[end]", 1), leaf("m[end]", 2)
		want := []api.Edit{replaced(append(slices.Clip(to), step("m[end]")), b, a)}
		for level := depth; level >= 0; level-- {
			at := func(s string) []api.Step { return append(slices.Clip(to[:level]), step(s)) }
			want = slices.Concat(
				[]api.Edit{deleted(at("a"), leaf("a", 1)), deleted(at("b"), box("b", leaf("x", 1))), created(at("b"), leaf("b", 2)), created(at("c[k]"), leaf("c[k]", 2))},
				want,
				[]api.Edit{replaced(at("x"), leaf("x", 2), leaf("x", 1)), deleted(at("y[k]"), box("y[k]")), created(at("z"), leaf("z", 2))})
			s := "m[" + strconv.Itoa(level) + "]"
			a = box(s, leaf("a", 1), box("b", leaf("x", 1)), a, leaf("x", 1), box("y[k]"))
			b = box(s, leaf("b", 2), leaf("c[k]", 2), b, leaf("x", 2), leaf("z", 2))
		}
		wantEdits(t, a, b, want...)
	}
}

// all calls a function for each tree that is right with so many nodes below its root, or fewer, of some steps, be they leaves of either of two values or boxes.
func all(size int, some []api.Step, call func(n api.Node)) {
	for _, kids := range forests(size, some, some) {
		call(api.Node{Kids: kids})
	}
}

// forests is all lists of kids with at most so many nodes in all; the kids themselves have steps of left, what is below them of some.
func forests(size int, left, some []api.Step) [][]api.Node {
	if size == 0 || len(left) == 0 {
		return [][]api.Node{nil}
	}
	l := forests(size, left[1:], some)
	n := api.Node{Name: left[0].Name, Key: left[0].Key}
	for _, below := range forests(size-1, some, some) {
		n.Kids = below
		heads := []api.Node{n}
		if len(below) == 0 {
			heads = append(heads, api.Node{Name: n.Name, Key: n.Key, Val: api.Val{Kind: 1, Num: 1}}, api.Node{Name: n.Name, Key: n.Key, Val: api.Val{Kind: 1, Num: 2}})
		}
		for _, head := range heads {
			for _, rest := range forests(size-tree.Size(head), left[1:], some) {
				l = append(l, slices.Concat([]api.Node{head}, rest))
			}
		}
	}
	return l
}

// TestAll: all pairs of small trees.
func TestAll(t *testing.T) { // P16.1, P16.2, P16.3
	for _, c := range []struct {
		size int
		some []api.Step
		want int
	}{{3, way("a", "a[k]", "b"), 1 + 9 + 54 + 351}, {4, way("a"), 1 + 3 + 3 + 3 + 3}, {3, way("a", "b[k]"), 1 + 6 + 21 + 78}} {
		var trees []api.Node
		var tables []table
		all(c.size, c.some, func(n api.Node) {
			trees = append(trees, n)
			tables = append(tables, tableOf(n))
		})
		if c.want != len(trees) {
			t.Errorf("%d trees of %q, want %d", len(trees), c.some, c.want)
		}
		for i, a := range trees {
			for j, b := range trees {
				l, want := diff.Edits(a, b), modelEdits(tables[i], tables[j])
				if show(l) != show(want) {
					t.Fatalf("Edits(%s, %s) =\n%swant\n%s", showNode(a), showNode(b), show(l), show(want))
				}
				if (len(l) == 0) != (i == j) {
					t.Fatalf("%d edits between %s and %s", len(l), showNode(a), showNode(b))
				}
				if (i+j)%11 == 0 {
					wantRound(t, a, b, l)
				}
			}
		}
	}
}
