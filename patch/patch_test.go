package patch_test

import (
	"math"
	"slices"
	"strconv"
	"strings"
	"testing"

	"tollbar/api"
	"tollbar/patch"
	"tollbar/tree"
)

// The calls of the chapter, with just these signatures.
var (
	_ func(api.Node, api.Edit) (api.Node, api.Errno)        = patch.One
	_ func(api.Node, []api.Edit) (api.Node, api.Errno, int) = patch.Apply
)

// step is the step of a short text: a name, or a name and a key in brackets.
func step(s string) api.Step {
	name, key, _ := strings.Cut(strings.TrimSuffix(s, "]"), "[")
	return api.Step{Name: name, Key: key}
}

// way is the steps of short texts.
func way(steps ...string) []api.Step {
	var l []api.Step
	for _, s := range steps {
		l = append(l, step(s))
	}
	return l
}

// box is a node that is no leaf, leaf, text and with ones that are.
func box(s string, kids ...api.Node) api.Node {
	return api.Node{Name: step(s).Name, Key: step(s).Key, Kids: kids}
}

func leaf(s string, num uint64) api.Node {
	return with(s, api.Val{Kind: api.Uint, Num: num})
}

func text(s, of string) api.Node {
	return with(s, api.Val{Kind: api.Ref, Text: of})
}

func with(s string, v api.Val) api.Node {
	n := box(s)
	n.Val = v
	return n
}

// named is a node with another step.
func named(s string, n api.Node) api.Node {
	n.Name, n.Key = step(s).Name, step(s).Key
	return n
}

// full is an edit with all that it may have.
func full(kind int, way []api.Step, node, old api.Node) api.Edit {
	return api.Edit{Kind: kind, Way: way, Node: node, Old: old}
}

// created, deleted and replaced are edits without what their kind does not use.
func created(way []api.Step, node api.Node) api.Edit {
	return full(api.Create, way, node, api.Node{})
}

func deleted(way []api.Step, old api.Node) api.Edit {
	return full(api.Delete, way, api.Node{}, old)
}

func replaced(way []api.Step, node, old api.Node) api.Edit {
	return full(api.Replace, way, node, old)
}

// class, port and example are trees of version 3, made anew for each call.
func class(key string, depth uint64) api.Node {
	return box("class["+key+"]", leaf("burst", 3000), leaf("depth", depth), leaf("quantum", 1500),
		with("rate", api.Val{Kind: api.Rate, Num: 1000}), with("shaped", api.Val{Kind: api.Bool, Num: 1}))
}

func rule(key, class string, low, high uint64) api.Node {
	return box("rule["+key+"]", text("class", class), leaf("high", high), leaf("low", low))
}

func port(key string, kids ...api.Node) api.Node { return box("port["+key+"]", kids...) }

func system() api.Node { return with("system", api.Val{Kind: api.Ident, Text: "core"}) }

func example() api.Node {
	return box("", port("a", class("be", 8), class("gold", 4), text("default", "be"), rule("r", "gold", 10, 19)),
		port("b", class("x", 1), text("default", "x")), system())
}

// kinds is the kinds of edits, otherKinds numbers of none.
var (
	kinds      = []int{1, 2, 3}
	otherKinds = []int{0, 4, 5, -1, -2, -3, 7, 255, 256, 257, 258, 259, 1<<16 + 1, 1<<32 + 2, math.MaxInt, math.MinInt, math.MinInt + 1}
)

// wantTree asks for a tree.
func wantTree(t *testing.T, n, want api.Node, x api.Edit) {
	t.Helper()
	if is, want := showNode(n), showNode(want); is != want {
		t.Errorf("the tree is\n%s\nwant\n%s\nby %s", short(is), short(want), short(showEdit(x)))
	}
}

// wantZero asks for no tree at all.
func wantZero(t *testing.T, n api.Node, x api.Edit) {
	t.Helper()
	if n.Name != "" || n.Key != "" || n.Val != (api.Val{}) || len(n.Kids) > 0 {
		t.Errorf("%s beside the error of %s", short(showNode(n)), short(showEdit(x)))
	}
}

// mayAsk stops a test that asks for what the chapter promises nothing of.
func mayAsk(t *testing.T, n api.Node, x api.Edit) {
	t.Helper()
	if !tree.Right(n) || !tree.Right(x.Node) {
		t.Fatalf("nothing is promised of %s and %s", short(showNode(n)), short(showEdit(x)))
	}
}

// wantOne asks for the tree that an edit makes, of Apply too.
func wantOne(t *testing.T, n api.Node, x api.Edit, want api.Node) {
	t.Helper()
	mayAsk(t, n, x)
	is, err := patch.One(n, x)
	if err != api.OK {
		t.Errorf("error %d of %s in %s", err, short(showEdit(x)), short(showNode(n)))
		return
	}
	wantTree(t, is, want, x)
	wantApply(t, n, []api.Edit{x}, want)
	wantModel(t, n, x)
}

// wantError asks for an error, of Apply too.
func wantError(t *testing.T, n api.Node, x api.Edit, want api.Errno) {
	t.Helper()
	mayAsk(t, n, x)
	is, err := patch.One(n, x)
	if err != want {
		t.Errorf("error %d, want %d, of %s in %s", err, want, short(showEdit(x)), short(showNode(n)))
		return
	}
	wantZero(t, is, x)
	wantFault(t, n, []api.Edit{x}, want, 0)
	wantModel(t, n, x)
}

// wantModel asks for what the chapter says.
func wantModel(t *testing.T, n api.Node, x api.Edit) {
	t.Helper()
	is, err := patch.One(n, x)
	l, want := modelOne(listOf(n), x)
	if err != want {
		t.Errorf("error %d, want %d, of %s in %s", err, want, short(showEdit(x)), short(showNode(n)))
		return
	}
	if err != api.OK {
		wantZero(t, is, x)
		return
	}
	if showList(listOf(is)) != showList(l) || is.Name != n.Name || is.Key != n.Key {
		t.Errorf("the tree is\n%s\nwant\n%s\nby %s", short(showNode(is)), short(showList(l)), short(showEdit(x)))
	}
	if !tree.Right(is) {
		t.Errorf("%s is not right, by %s", short(showNode(is)), short(showEdit(x)))
	}
}

// wantApply asks for the tree that edits make.
func wantApply(t *testing.T, n api.Node, l []api.Edit, want api.Node) {
	t.Helper()
	is, err, at := patch.Apply(n, l)
	if err != api.OK || at != 0 {
		t.Errorf("error %d at %d in %s by\n%s", err, at, short(showNode(n)), short(show(l)))
		return
	}
	if is, want := showNode(is), showNode(want); is != want {
		t.Errorf("the tree is\n%s\nwant\n%s\nby\n%s", short(is), short(want), short(show(l)))
	}
}

// wantFault asks for the first error of edits, and which one has it.
func wantFault(t *testing.T, n api.Node, l []api.Edit, want api.Errno, at int) {
	t.Helper()
	is, err, i := patch.Apply(n, l)
	if err != want || i != at {
		t.Errorf("error %d at %d, want %d at %d, in %s by\n%s", err, i, want, at, short(showNode(n)), short(show(l)))
	}
	wantZero(t, is, api.Edit{})
}

func TestExample(t *testing.T) { // P17.1
	wantError(t, box("", leaf("up", 1)), created(way("up"), leaf("up", 1)), api.ErrTwice)
	wantError(t, box("", leaf("up", 1)), created(way("up"), leaf("up", 2)), api.ErrTwice)
	wantError(t, box("", leaf("up", 1)), created(way("up"), box("up")), api.ErrTwice)
}

// TestNoSteps: an edit without a way, whatever else it has.
func TestNoSteps(t *testing.T) { // P17.1
	for _, n := range []api.Node{{}, box("a"), leaf("", 1), leaf("a[k]", 1), example()} {
		for _, w := range [][]api.Step{nil, {}, way("spare")[:0]} {
			for _, kind := range append(slices.Clone(kinds), otherKinds...) {
				for _, x := range []api.Node{{}, n, leaf("", 1), leaf("", 2), box("a", leaf("b", 1))} {
					wantError(t, n, full(kind, w, x, n), api.ErrArg)
					wantError(t, n, full(kind, w, n, x), api.ErrArg)
					wantError(t, n, full(kind, w, x, x), api.ErrArg)
				}
			}
		}
	}
}

// TestKinds: an edit of no kind, where one of each kind would do, and where none would.
func TestKinds(t *testing.T) { // P17.1
	a, b := leaf("m", 1), leaf("m", 2)
	for _, c := range []struct {
		n api.Node
		x api.Edit
	}{
		{api.Node{}, created(way("m"), a)}, {box("", a), deleted(way("m"), a)}, {box("", a), replaced(way("m"), b, a)}, {box("", a), full(0, way("m"), b, a)}, {api.Node{}, full(0, way("m"), a, a)}, {box("", a), full(0, way("m"), a, b)},
		{api.Node{}, full(0, way("m"), a, api.Node{})}, {api.Node{}, full(0, way("x", "m"), a, a)}, {box("", box("m")), full(0, way("m"), box("m"), box("m"))}, {api.Node{}, full(0, way("m"), api.Node{}, api.Node{})}, {a, full(0, way("m"), a, a)}, {api.Node{}, full(0, way(""), api.Node{}, api.Node{})},
	} {
		if c.x.Kind != 0 {
			if _, err := patch.One(c.n, c.x); err != api.OK {
				t.Errorf("error %d of %s", err, showEdit(c.x))
			}
		}
		for _, kind := range otherKinds {
			wantError(t, c.n, full(kind, c.x.Way, c.x.Node, c.x.Old), api.ErrArg)
		}
		for kind := -70; kind < 300; kind++ {
			if kind < 1 || kind > 3 {
				wantError(t, c.n, full(kind, c.x.Way, c.x.Node, c.x.Old), api.ErrArg)
			}
		}
	}
}

// otherSteps is steps that differ from one in one thing each, or in both.
func otherSteps(s api.Step) []api.Step {
	l := []api.Step{{Name: s.Name + "x", Key: s.Key}, {Name: s.Name, Key: s.Key + "x"}, {Name: "x" + s.Name, Key: s.Key}, {Name: s.Name, Key: "x" + s.Key}, {Name: s.Name + "\x00", Key: s.Key}, {Name: s.Name, Key: s.Key + "\x00"}, {Name: s.Name + "x", Key: s.Key + "x"}, {Name: s.Name + s.Key + "y"}, {Name: "z", Key: s.Name}}
	for _, other := range []api.Step{{}, {Name: s.Name}, {Key: s.Key}, {Name: strings.ToUpper(s.Name), Key: s.Key}, {Name: s.Name, Key: strings.ToUpper(s.Key)}} {
		if other != s {
			l = append(l, other)
		}
	}
	return l
}

// TestSteps: a Node, or an Old, that has another name or another key than the way's last step, where the edit would do otherwise.
func TestSteps(t *testing.T) { // P17.1
	for _, at := range []string{"m", "m[k]", "", "[k]", "port[a]"} {
		for _, front := range [][]api.Step{nil, way("p[q]"), way("m", "m[k]")} {
			w := append(slices.Clip(front), step(at))
			a, b := leaf(at, 1), leaf(at, 2)
			empty, there := api.Node{}, box("", a)
			for _, s := range slices.Backward(front) {
				empty, there = box("", named(s.Name+"["+s.Key+"]", empty)), box("", named(s.Name+"["+s.Key+"]", there))
			}
			wantOne(t, empty, created(w, a), there)
			wantOne(t, there, deleted(w, a), empty)
			for _, s := range otherSteps(step(at)) {
				other := func(n api.Node) api.Node { n.Name, n.Key = s.Name, s.Key; return n }
				for _, n := range []api.Node{empty, there} {
					wantError(t, n, created(w, other(a)), api.ErrArg)
					wantError(t, n, created(w, other(box(at))), api.ErrArg)
					wantError(t, n, full(1, w, other(a), a), api.ErrArg)
					wantError(t, n, full(1, w, other(a), other(a)), api.ErrArg)
					wantError(t, n, deleted(w, other(a)), api.ErrArg)
					wantError(t, n, full(2, w, a, other(a)), api.ErrArg)
					wantError(t, n, full(2, w, other(a), other(a)), api.ErrArg)
					wantError(t, n, replaced(w, other(b), a), api.ErrArg)
					wantError(t, n, replaced(w, b, other(a)), api.ErrArg)
					wantError(t, n, replaced(w, other(b), other(a)), api.ErrArg)
				}
			}
		}
	}
	// It is the last step that they must have, not another one of the way.
	n := box("", box("a", leaf("b", 1)))
	wantError(t, n, deleted(way("a", "b"), leaf("a", 1)), api.ErrArg)
	wantError(t, n, replaced(way("a", "b"), leaf("a", 2), leaf("a", 1)), api.ErrArg)
	wantError(t, n, created(way("a", "c"), leaf("a", 1)), api.ErrArg)
	wantError(t, n, created(way("c"), api.Node{}), api.ErrArg)
	wantError(t, n, deleted(way("a"), api.Node{}), api.ErrArg)
	wantError(t, n, replaced(way("a", "b"), leaf("b", 2), api.Node{}), api.ErrArg)
	wantError(t, n, replaced(way("a", "b"), api.Node{}, leaf("b", 1)), api.ErrArg)
}

// unused is nodes of each sort, which an edit may have where its kind does not look; wrong ones among them, if it may be.
func unused(s string, wrong bool) []api.Node {
	l := []api.Node{{}, box(s), box(s, leaf("x", 1)), leaf(s, 1), leaf(s, 2), text(s, "x"), leaf("other", 1), box("other[k]", box("x")), with(s, api.Val{Kind: -1}), example()}
	if wrong {
		l = append(l, box(s, leaf("b", 1), leaf("a", 1)), box("", box(s), box(s)), api.Node{Name: s, Val: api.Val{Kind: 1}, Kids: []api.Node{leaf("a", 1)}}, api.Node{Val: api.Val{Num: 1, Text: "x"}})
	}
	return l
}

// TestUnused: the Old of a Create and the Node of a Delete play no part.
func TestUnused(t *testing.T) { // P17.1
	for _, n := range nodes("m") {
		for i, there := range around(n) {
			empty := around(box("m"))[i]
			empty, _ = tree.Cut(empty, way("m"))
			for _, old := range unused("m", true) {
				wantOne(t, empty, full(api.Create, way("m"), n, old), there)
				wantError(t, there, full(api.Create, way("m"), n, old), api.ErrTwice)
				wantError(t, empty, full(api.Create, way("o"), n, old), api.ErrArg)
				wantError(t, empty, full(api.Create, way("o", "m"), n, old), api.NoPath)
			}
			for _, node := range unused("m", false) {
				wantOne(t, there, full(api.Delete, way("m"), node, n), empty)
				wantError(t, empty, full(api.Delete, way("m"), node, n), api.NoPath)
				wantError(t, there, full(api.Delete, way("o"), node, n), api.ErrArg)
				wantError(t, there, full(api.Delete, way("m"), node, with("m", api.Val{Kind: 99})), api.ErrValue)
			}
		}
	}
}

// vals is values of leaves, of Kinds that there are none of too; they differ in one thing or in several.
var vals = []api.Val{
	{Kind: api.Uint}, {Kind: api.Uint, Num: 1}, {Kind: api.Uint, Num: 1 << 32}, {Kind: api.Uint, Num: math.MaxUint64}, {Kind: api.Rate}, {Kind: api.Rate, Num: 1}, {Kind: api.Bool}, {Kind: api.Bool, Num: 1},
	{Kind: api.Enum, Text: "a"}, {Kind: api.Ident, Text: "a"}, {Kind: api.Ident, Text: "b"}, {Kind: api.Ident, Text: "ab"}, {Kind: api.Ref, Text: "a"}, {Kind: api.Ref, Text: "a", Num: 1}, {Kind: api.Uint, Text: "a"},
	{Kind: api.Ref + 1}, {Kind: 100, Num: 1, Text: "a"}, {Kind: 257}, {Kind: 1 << 32}, {Kind: math.MaxInt}, {Kind: -1}, {Kind: math.MinInt}, {Kind: -1, Num: 1}, {Kind: -1, Text: "\xff"}, {Kind: -1, Text: "\x00"},
}

// nodes is nodes of each sort, of one step; no two are the same.
func nodes(s string) []api.Node {
	l := []api.Node{
		box(s), box(s, leaf("a", 1)), box(s, leaf("a", 2)), box(s, leaf("b", 1)), box(s, box("a")), box(s, box("a[b]")), box(s, leaf("a", 1), leaf("b", 1)), box(s, leaf("a", 1), box("b", text("c", "d")), leaf("c[d]", 2)), box(s, leaf("a", 1), box("b", text("c", "e")), leaf("c[d]", 2)),
		box(s, box("a", box("b", box("c[k]", box("d", leaf("e", 1)))))), box(s, box("a", box("b", box("c[k]", box("d", leaf("e", 2)))))), box(s, box("a", box("b", box("c[k]", box("d", leaf("e", 1), leaf("f", 1)))))),
	}
	for _, v := range vals {
		l = append(l, with(s, v))
	}
	return l
}

// around is a tree in which a node stands alone, first, between others, and last, if it is named m, and one in which it does deep down.
func around(n api.Node) []api.Node {
	return []api.Node{box("", n), box("r[k]", n, leaf("z", 1)), box("", leaf("a", 1), n, box("z")), box("x", box("a", leaf("m", 1)), n), box("", box("a", leaf("b", 1)), box("a[b]"), n, box("n"), leaf("n[x]", 1))}
}

// TestTwice: a Create where there is a node, of each sort, whatever the new one is.
func TestTwice(t *testing.T) { // P17.1
	for _, s := range []string{"m", "m[k]"} {
		for i, was := range nodes(s) {
			for k, node := range nodes(s) {
				if i > 12 && k > 12 && (i+k)%7 > 0 {
					continue
				}
				for _, n := range around(was) {
					wantError(t, n, created(way(s), node), api.ErrTwice)
				}
				wantError(t, box("", box("p", box("q[r]", was))), created(way("p", "q[r]", s), node), api.ErrTwice)
			}
		}
	}
	n := example()
	wantError(t, n, created(way("port[a]"), port("a")), api.ErrTwice)
	wantError(t, n, created(way("port[a]", "class[be]"), class("be", 8)), api.ErrTwice)
	wantError(t, n, created(way("port[a]", "class[be]", "depth"), leaf("depth", 9)), api.ErrTwice)
	wantError(t, n, created(way("system"), box("system")), api.ErrTwice)
}

// TestNoPath: a Delete and a Replace where there is no node, for each reason.
func TestNoPath(t *testing.T) { // P17.1
	n := example()
	for _, w := range [][]api.Step{
		way("wait"), way("port"), way("port[c]"), way("port[aa]"), way("port[]"), way(""), way("[a]"), way("system[a]"), way("sys"), way("systems"), way("port[A]"), // none there
		way("port[a]", "class[x]"), way("port[b]", "class[be]"), way("port[a]", "rule[gold]"), way("port[a]", "system"), way("port[a]", "class[be]", "depths"), way("port[a]", "class[be]", "depth[k]"), way("port[a]", "port[a]"),
		way("port[c]", "default"), way("port", "default"), way("port[c]", "class[be]", "depth"), way("port[a]", "class[x]", "depth"), way("port[a]", "class", "depth"), way("wait", "x", "y", "z"), way("class[be]", "depth"), // a step above lacks
		way("system", "x"), way("system", "system"), way("port[a]", "default", "be"), way("port[a]", "default", "class[be]"), way("port[a]", "class[be]", "depth", "depth"), way("port[a]", "class[be]", "depth", "x", "y"), // a leaf stands above
	} {
		last := w[len(w)-1]
		for _, v := range vals {
			is, was := api.Node{Name: last.Name, Key: last.Key, Val: v}, api.Node{Name: last.Name, Key: last.Key, Val: vals[0]}
			wantError(t, n, deleted(w, is), api.NoPath)
			wantError(t, n, replaced(w, is, was), api.NoPath)
			wantError(t, n, replaced(w, was, is), api.NoPath)
		}
		b := api.Node{Name: last.Name, Key: last.Key, Kids: []api.Node{leaf("x", 1)}}
		wantError(t, n, deleted(w, b), api.NoPath)
		wantError(t, n, replaced(w, b, b), api.NoPath)
		wantError(t, api.Node{}, deleted(w, b), api.NoPath)
	}
	for _, root := range []api.Node{{}, box("a"), box("a[k]"), leaf("a", 1), leaf("", 1)} {
		wantError(t, root, deleted(way("a"), leaf("a", 1)), api.NoPath)
		wantError(t, root, deleted(way("a"), box("a")), api.NoPath)
		wantError(t, root, replaced(way("a"), leaf("a", 2), leaf("a", 1)), api.NoPath)
		wantError(t, root, deleted(way("a", "a"), leaf("a", 1)), api.NoPath)
		wantError(t, root, deleted(way(""), named("", root)), api.NoPath)
	}
}

// TestOld: a Delete and a Replace of a node that is not what they say.
func TestOld(t *testing.T) { // P17.1
	for _, s := range []string{"m", "m[k]"} {
		l := nodes(s)
		for i, was := range l {
			for j, old := range l {
				n := around(was)[(i+j)%5]
				deep := box("", box("p", box("q[r]", n.Kids...)))
				if i == j {
					without, _ := tree.Cut(n, way(s))
					wantOne(t, n, deleted(way(s), old), without)
					continue
				}
				wantError(t, n, deleted(way(s), old), api.ErrValue)
				wantError(t, deep, deleted(way("p", "q[r]", s), old), api.ErrValue)
				for _, node := range []api.Node{was, old, leaf(s, 7), box(s)} {
					wantError(t, n, replaced(way(s), node, old), api.ErrValue)
					wantError(t, deep, replaced(way("p", "q[r]", s), node, old), api.ErrValue)
				}
			}
		}
	}
}

// others is trees that differ from one in one thing each, but not in the root's step.
func others(n api.Node) []api.Node {
	l := slices.Repeat([]api.Node{n}, 8)
	l[0].Val.Kind++
	l[1].Val.Kind = -7
	l[2].Val.Num++
	l[3].Val.Num += 1 << 32
	l[4].Val.Text += "x"
	l[5].Val.Text += "\x00"
	l[6].Kids = append(slices.Clip(n.Kids), api.Node{Name: "zz"})
	l[7].Kids = append([]api.Node{box("0")}, n.Kids...)
	if len(n.Kids) > 0 {
		l = append(l, n, n)
		l[8].Kids = n.Kids[1:]
		l[9].Kids = n.Kids[:len(n.Kids)-1]
	}
	if len(n.Kids) > 1 {
		l = append(l, n)
		l[10].Kids = slices.Clone(n.Kids)
		slices.Reverse(l[10].Kids)
	}
	for i, kid := range n.Kids {
		changed := others(kid)
		for _, s := range otherSteps(api.Step{Name: kid.Name, Key: kid.Key}) {
			other := kid
			other.Name, other.Key = s.Name, s.Key
			changed = append(changed, other)
		}
		for _, other := range changed {
			x := n
			x.Kids = slices.Clone(n.Kids)
			x.Kids[i] = other
			l = append(l, x)
		}
	}
	return l
}

// TestOldAlmost: an Old that differs from the node in one thing alone, wherever it is; it may be one that is not right.
func TestOldAlmost(t *testing.T) { // P17.1
	n := example()
	for _, w := range [][]api.Step{way("port[a]"), way("port[b]"), way("system"), way("port[a]", "class[be]"), way("port[a]", "rule[r]"), way("port[a]", "default"), way("port[a]", "class[gold]", "depth"), way("port[a]", "class[be]", "rate")} {
		old, _ := tree.Get(n, w)
		without, _ := tree.Cut(n, w)
		wantOne(t, n, deleted(w, old), without)
		for _, other := range others(old) {
			wantError(t, n, deleted(w, other), api.ErrValue)
			wantError(t, n, replaced(w, old, other), api.ErrValue)
		}
	}
}

// TestReplaceBoxes: a Replace whose Node, or whose Old, or both, are no leaves, though its Old is what stands there.
func TestReplaceBoxes(t *testing.T) { // P17.1
	for _, s := range []string{"m", "m[k]"} {
		for i, was := range nodes(s) {
			for k, node := range nodes(s) {
				n := around(was)[(i+k)%5]
				deep := func(n api.Node) api.Node { return box("", box("p", box("q[r]", n.Kids...)), leaf("z", 1)) }
				if node.Val.Kind != 0 && was.Val.Kind != 0 {
					want := around(node)[(i+k)%5]
					wantOne(t, n, replaced(way(s), node, was), want)
					wantOne(t, deep(n), replaced(way("p", "q[r]", s), node, was), deep(want))
					continue
				}
				wantError(t, n, replaced(way(s), node, was), api.ErrValue)
				wantError(t, deep(n), replaced(way("p", "q[r]", s), node, was), api.ErrValue)
			}
		}
	}
	// One that would change nothing is none either if it is of a box, and is one if it is of a leaf.
	n := example()
	wantError(t, n, replaced(way("port[a]"), n.Kids[0], n.Kids[0]), api.ErrValue)
	wantOne(t, n, replaced(way("system"), system(), system()), n)
}

// TestFirst: of two errors that are both due, the one that the chapter names first.
func TestFirst(t *testing.T) { // P17.1
	a, b, other := leaf("m", 1), leaf("m", 2), leaf("o", 1)
	empty, there := box("", leaf("a", 1)), box("", leaf("a", 1), a)
	boxed := box("", box("m", leaf("x", 1)))
	for _, c := range []struct {
		n    api.Node
		x    api.Edit
		want api.Errno
	}{
		{there, created(way("m"), other), api.ErrArg}, {there, full(0, way("m"), a, a), api.ErrArg}, {there, created(nil, a), api.ErrArg}, // ErrArg, and a node that is there
		{empty, deleted(way("m"), other), api.ErrArg}, {empty, replaced(way("m"), other, a), api.ErrArg}, {empty, replaced(way("m"), a, other), api.ErrArg}, {empty, full(4, way("m"), a, a), api.ErrArg}, // ErrArg, and none there
		{empty, created(way("n", "m"), other), api.ErrArg}, {empty, created(way("a", "m"), other), api.ErrArg}, {leaf("", 1), created(way("m"), other), api.ErrArg}, // ErrArg, and no box
		{there, deleted(way("m"), leaf("o", 9)), api.ErrArg}, {there, replaced(way("m"), other, b), api.ErrArg}, {there, replaced(way("m"), b, leaf("m[k]", 1)), api.ErrArg}, {there, full(-1, way("m"), a, b), api.ErrArg}, // ErrArg, and another Old
		{boxed, replaced(way("m"), box("o"), box("m", leaf("x", 1))), api.ErrArg}, {boxed, replaced(way("m"), box("m"), box("o")), api.ErrArg}, {boxed, full(0, way("m"), box("m"), box("m", leaf("x", 1))), api.ErrArg}, // ErrArg, and no leaves
		{empty, replaced(way("m"), box("m"), a), api.NoPath}, {empty, replaced(way("m"), a, box("m")), api.NoPath}, {empty, replaced(way("m"), box("m"), box("m")), api.NoPath}, {empty, replaced(way("a", "m"), box("m"), box("m")), api.NoPath}, // NoPath, and no leaves
		{there, replaced(way("m"), box("m"), b), api.ErrValue}, {boxed, replaced(way("m"), a, b), api.ErrValue}, {boxed, replaced(way("m"), a, box("m")), api.ErrValue}, // another Old, and no leaves
	} {
		wantError(t, c.n, c.x, c.want)
	}
	// A Create does not ask what stands above the node but after all else: where one is there, a box is too.
	wantError(t, empty, created(way("a", "b"), leaf("b", 1)), api.NoPath)
	wantError(t, there, created(way("a"), box("a")), api.ErrTwice)
}

// TestPlaces: a node that is created stands at its place in the order, and nothing else moves when it is deleted.
func TestPlaces(t *testing.T) { // P17.1
	steps := []api.Step{
		{}, {Key: "\x00"}, {Key: "a"}, {Name: "\x00"}, {Name: "-"}, {Name: "A"}, {Name: "a"}, {Name: "a", Key: "\x00"}, {Name: "a", Key: "B"}, {Name: "a", Key: "b"}, {Name: "a", Key: "ba"}, {Name: "a", Key: "\x80"}, {Name: "a", Key: "\xff"},
		{Name: "a\x00"}, {Name: "aa"}, {Name: "aa", Key: "a"}, {Name: "ab"}, {Name: "b"}, {Name: "class", Key: "x"}, {Name: "class-1"}, {Name: "z"}, {Name: "\x80"}, {Name: "\xc3\xa4"}, {Name: "\xff"}, {Name: "\xff", Key: "\xff"},
	}
	var all []api.Node
	for i, s := range steps {
		n := leaf("", uint64(i))
		if i%3 == 0 {
			n = box("", leaf("x", uint64(i)))
		}
		n.Name, n.Key = s.Name, s.Key
		all = append(all, n)
	}
	for i, s := range steps {
		rest := slices.Delete(slices.Clone(all), i, i+1)
		for _, part := range [][2][]api.Node{{all, rest}, {all[:i+1], rest[:i]}, {all[i:], rest[i:]}, {all[i : i+1], nil}} {
			there, empty := box("", part[0]...), box("", part[1]...)
			w := []api.Step{s}
			wantOne(t, empty, created(w, all[i]), there)
			wantOne(t, there, deleted(w, all[i]), empty)
			deep := append(way("m", "m[k]"), s)
			wantOne(t, box("", box("m", box("m[k]", part[1]...))), created(deep, all[i]), box("", box("m", box("m[k]", part[0]...))))
			wantOne(t, box("", box("m", box("m[k]", part[0]...))), deleted(deep, all[i]), box("", box("m", box("m[k]", part[1]...))))
		}
	}
}

// TestDepths: an edit of each kind at ways of every depth, beside other nodes at each of them.
func TestDepths(t *testing.T) { // P17.1
	for depth := range 14 {
		var w []api.Step
		for i := range depth {
			w = append(w, api.Step{Name: "m", Key: strconv.Itoa(i)})
		}
		w = append(w, step("end"))
		build := func(kids ...api.Node) api.Node {
			n := box("", slices.Concat([]api.Node{leaf("a", 1)}, kids, []api.Node{box("z", leaf("end", 1))})...)
			for _, s := range slices.Backward(w[:depth]) {
				n.Name, n.Key = s.Name, s.Key
				n = box("", leaf("end", 7), box("m", leaf("end", 2)), n, box("m[x]"), leaf("z", 1))
			}
			return n
		}
		empty, a, b, c := build(), build(leaf("end", 1)), build(leaf("end", 2)), build(box("end", leaf("x", 1), box("y[k]", leaf("z", 1))))
		wantOne(t, empty, created(w, leaf("end", 1)), a)
		wantOne(t, a, deleted(w, leaf("end", 1)), empty)
		wantOne(t, a, replaced(w, leaf("end", 2), leaf("end", 1)), b)
		wantOne(t, empty, created(w, box("end", leaf("x", 1), box("y[k]", leaf("z", 1)))), c)
		wantOne(t, c, deleted(w, box("end", leaf("x", 1), box("y[k]", leaf("z", 1)))), empty)
		wantOne(t, c, replaced(append(slices.Clip(w), way("y[k]", "z")...), leaf("z", 5), leaf("z", 1)), build(box("end", leaf("x", 1), box("y[k]", leaf("z", 5)))))
		wantError(t, b, deleted(w, leaf("end", 1)), api.ErrValue)
		wantError(t, a, created(w, leaf("end", 1)), api.ErrTwice)
		wantError(t, empty, deleted(w, leaf("end", 1)), api.NoPath)
		wantError(t, a, created(append(slices.Clip(w), step("x")), leaf("x", 1)), api.NoPath)
	}
}

// TestRoots: the root's own step plays no part, and stays as it is.
func TestRoots(t *testing.T) { // P17.1, P17.2
	for _, s := range []string{"", "a", "a[k]", "[k]", "\xff[\xff]"} {
		a, b := leaf("a[k]", 1), leaf("a[k]", 2)
		wantOne(t, box(s), created(way("a[k]"), a), box(s, a))
		wantOne(t, box(s, a), replaced(way("a[k]"), b, a), box(s, b))
		wantOne(t, box(s, a), deleted(way("a[k]"), a), box(s))
		wantApply(t, box(s, a), nil, box(s, a))
	}
}
