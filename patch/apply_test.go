package patch_test

import (
	"math/rand"
	"slices"
	"strconv"
	"testing"

	"tollbar/api"
	"tollbar/diff"
	"tollbar/patch"
	"tollbar/tree"
	"tollbar/valid"
)

// TestNoEdits: no edits leave any tree as it is.
func TestNoEdits(t *testing.T) { // P17.2
	for _, n := range append(nodes("m[k]"), api.Node{}, api.Node{Kids: []api.Node{}}, example()) {
		for _, l := range [][]api.Edit{nil, {}, make([]api.Edit, 1)[:0]} {
			wantApply(t, n, l, n)
		}
	}
}

// TestSeveral: each edit is of what those ahead of it have left.
func TestSeveral(t *testing.T) { // P17.2
	a := leaf("a", 1)
	wantApply(t, api.Node{}, []api.Edit{created(way("p"), box("p")), created(way("p", "a"), a)}, box("", box("p", a)))
	wantFault(t, api.Node{}, []api.Edit{created(way("p", "a"), a), created(way("p"), box("p"))}, api.NoPath, 0)
	wantApply(t, api.Node{}, []api.Edit{created(way("a"), a), deleted(way("a"), a), created(way("a"), leaf("a", 2)), replaced(way("a"), text("a", "x"), leaf("a", 2))}, box("", text("a", "x")))
	wantApply(t, api.Node{}, []api.Edit{created(way("a"), a), deleted(way("a"), a), created(way("a"), box("a")), created(way("a", "a"), a), deleted(way("a"), box("a", a))}, api.Node{})
	wantFault(t, api.Node{}, []api.Edit{created(way("a"), box("a")), created(way("a", "a"), a), deleted(way("a"), box("a"))}, api.ErrValue, 2)
	wantFault(t, api.Node{}, []api.Edit{created(way("a"), a), created(way("a"), a)}, api.ErrTwice, 1)
	wantFault(t, box("", a), []api.Edit{deleted(way("a"), a), deleted(way("a"), a)}, api.NoPath, 1)
	wantFault(t, box("", a), []api.Edit{replaced(way("a"), leaf("a", 2), a), replaced(way("a"), leaf("a", 2), a)}, api.ErrValue, 1)
	var up, down []api.Edit
	for i := range uint64(40) {
		up = append(up, replaced(way("a"), leaf("a", i+2), leaf("a", i+1)))
		down = append(down, replaced(way("a"), leaf("a", 40-i), leaf("a", 41-i)))
	}
	wantApply(t, box("", a), up, box("", leaf("a", 41)))
	wantApply(t, box("", a), append(up, down...), box("", a))
	wantFault(t, box("", a), slices.Concat(up, up), api.ErrValue, 40)
	// Many that stand beside one another, in any order.
	var l []api.Edit
	var want api.Node
	for i := range 60 {
		s := "k[" + strconv.Itoa(100+i) + "]"
		want.Kids = append(want.Kids, box(s, leaf("x", uint64(i))))
		l = append(l, created(way(s), box(s)), created(way(s, "x"), leaf("x", uint64(i))))
	}
	wantApply(t, api.Node{}, l, want)
	slices.Reverse(l)
	for i := 0; i < len(l); i += 2 {
		l[i], l[i+1] = l[i+1], l[i]
	}
	wantApply(t, api.Node{}, l, want)
}

// faulty is an edit of each error, in a tree in which m is a leaf, b a box and n nothing.
func faulty() map[api.Errno][]api.Edit {
	m, b, n := leaf("m", 1), box("b", leaf("x", 1)), leaf("n", 1)
	return map[api.Errno][]api.Edit{
		api.ErrArg:   {{}, created(nil, m), full(0, way("n"), n, n), full(4, way("m"), m, m), created(way("n"), m), deleted(way("m"), n), replaced(way("m"), m, n), replaced(way("m"), n, m)},
		api.ErrTwice: {created(way("m"), m), created(way("b"), b), created(way("b", "x"), leaf("x", 2))},
		api.NoPath:   {deleted(way("n"), n), replaced(way("n"), n, n), deleted(way("n", "n"), n), replaced(way("m", "n"), n, n), created(way("m", "n"), n), created(way("n", "n"), n)},
		api.ErrValue: {deleted(way("m"), leaf("m", 2)), replaced(way("m"), m, leaf("m", 2)), replaced(way("b"), b, b), replaced(way("m"), box("m"), m), deleted(way("b"), box("b"))},
	}
}

// TestWhich: the error is that of the first edit that is wrong, and the number is that edit's.
func TestWhich(t *testing.T) { // P17.2
	n := box("", box("b", leaf("x", 1)), leaf("m", 1))
	var good []api.Edit
	for i := range 7 {
		s := "good[" + strconv.Itoa(i) + "]"
		good = append(good, created(way(s), box(s)))
	}
	for err, l := range faulty() {
		for _, x := range l {
			wantError(t, n, x, err)
			for count := range len(good) + 1 {
				row := slices.Clone(good[:count])
				for i := range count + 1 {
					wantFault(t, n, slices.Insert(slices.Clone(row), i, x), err, i)
					// Others that are wrong, behind it, are not told.
					for _, others := range faulty() {
						wantFault(t, n, slices.Concat(row[:i], []api.Edit{x}, others, row[i:]), err, i)
					}
				}
			}
		}
	}
	wantApply(t, n, good, box("", append(slices.Clone(n.Kids[:1]), append(nodesOf(good), n.Kids[1])...)...))
}

// nodesOf is the nodes that edits create.
func nodesOf(l []api.Edit) []api.Node {
	var nodes []api.Node
	for _, x := range l {
		nodes = append(nodes, x.Node)
	}
	return nodes
}

// wantTurn asks whether the edits between two trees make the one of the other, and their inverse turns it back.
func wantTurn(t *testing.T, a, b api.Node) {
	t.Helper()
	if !tree.Right(a) || !tree.Right(b) || a.Val.Kind != 0 || b.Val.Kind != 0 {
		t.Fatalf("no edits of %s, %s are promised", short(showNode(a)), short(showNode(b)))
	}
	a.Name, a.Key = b.Name, b.Key // no edit is of the root itself
	l := diff.Edits(a, b)
	wantApply(t, a, l, b)
	wantApply(t, b, diff.Inverse(l), a)
	wantApply(t, a, slices.Concat(l, diff.Inverse(l)), a)
	if len(l) == 0 {
		return
	}
	// One by one, with the model beside them; and no edit goes twice, ahead of others that could undo it.
	n, left := a, listOf(a)
	for i, x := range l {
		wantModel(t, n, x)
		is, err := patch.One(n, x)
		left, _ = modelOne(left, x)
		if err != api.OK || showList(listOf(is)) != showList(left) {
			t.Errorf("error %d at %d, between %s and %s", err, i, short(showNode(a)), short(showNode(b)))
			return
		}
		n = is
	}
	wantTree(t, n, b, l[len(l)-1])
}

// shapes is trees of each shape.
func shapes() []api.Node {
	l := []api.Node{
		{}, example(), box("x[k]", leaf("a", 1)), box("", box("a")), box("", leaf("", 1)), box("", box("", box("", leaf("", 1)))),
		box("", leaf("a", 2)), box("", text("a", "x")), box("", box("a", leaf("b", 1))), box("", box("a", leaf("b", 2), box("c[k]"))), box("", box("a[k]", leaf("b", 1)), box("a[l]", leaf("b", 2))), box("", leaf("a[k]", 1), leaf("b", 1)),
		box("", box("a", box("b", box("c", box("d", leaf("e", 1)))))), box("", box("a", box("b", box("c", box("d", leaf("e", 2)))))), box("", box("a", box("b", box("c", leaf("d", 1))))),
		box("", port("b", text("default", "y")), with("system", api.Val{Kind: api.Ident, Text: "a"}), leaf("wait", 7)), box("", port("a", class("be", 9), text("default", "be"))),
	}
	for _, n := range nodes("m") {
		l = append(l, around(n)...)
	}
	return l
}

func TestDiff(t *testing.T) { // P17.3
	l := shapes()
	for i, a := range l {
		for k, b := range l {
			if i < 20 || k < 20 || (i*k)%13 == 0 {
				wantTurn(t, a, b)
			}
		}
	}
}

// TestValid: trees that may be, of which the edits make one another.
func TestValid(t *testing.T) { // P17.3
	var l []api.Node
	for _, n := range []api.Node{
		{}, example(), box("", leaf("wait", 5)), box("", with("system", api.Val{Kind: api.Ident, Text: "a"})), box("", port("a", class("be", 1), text("default", "be"))),
		box("", port("a", class("be", 2), text("default", "be"), rule("r", "be", 1, 2), rule("s", "be", 3, 4)), port("b", class("be", 1), text("default", "be"))),
		box("", port("b", class("x", 1), class("y", 1), text("default", "y")), port("c", class("x", 1), text("default", "x"))),
	} {
		if !valid.May(3, n) {
			t.Fatalf("%s may not be", showNode(n))
		}
		l = append(l, n)
	}
	for _, a := range l {
		for _, b := range l {
			wantTurn(t, a, b)
		}
	}
}

// all calls a function for each tree that is right with so many nodes below its root, or fewer, of some steps, be they leaves of either of two values or boxes.
func all(size int, some []api.Step, call func(n api.Node)) {
	for _, kids := range forests(size, some, some) {
		call(api.Node{Kids: kids})
	}
}

// forests is all lists of kids with at most so many nodes in all; the kids themselves have steps of left, what is below them of some.
func forests(size int, left, some []api.Step) [][]api.Node {
	if size == 0 || len(left) == 0 {
		return [][]api.Node{nil}
	}
	l := forests(size, left[1:], some)
	n := api.Node{Name: left[0].Name, Key: left[0].Key}
	for _, below := range forests(size-1, some, some) {
		n.Kids = below
		heads := []api.Node{n}
		if len(below) == 0 {
			heads = append(heads, api.Node{Name: n.Name, Key: n.Key, Val: api.Val{Kind: 1, Num: 1}}, api.Node{Name: n.Name, Key: n.Key, Val: api.Val{Kind: 1, Num: 2}})
		}
		for _, head := range heads {
			for _, rest := range forests(size-tree.Size(head), left[1:], some) {
				l = append(l, slices.Concat([]api.Node{head}, rest))
			}
		}
	}
	return l
}

// TestAll: all small trees, and all edits of them with small ways and nodes.
func TestAll(t *testing.T) { // P17.1, P17.3
	some := way("a", "b[k]")
	var trees []api.Node
	all(3, some, func(n api.Node) { trees = append(trees, n) })
	if want := 1 + 6 + 21 + 78; len(trees) != want {
		t.Errorf("%d trees, want %d", len(trees), want)
	}
	var edits []api.Edit
	for _, w := range [][]api.Step{nil, way("a"), way("b[k]"), way("a", "a"), way("a", "b[k]"), way("b[k]", "a"), way("b[k]", "a", "b[k]")} {
		var nodes []api.Node
		for _, s := range []string{"a", "b[k]"} {
			nodes = append(nodes, box(s), leaf(s, 1), leaf(s, 2), box(s, leaf("a", 1)), box(s, leaf("a", 2)), box(s, box("b[k]")), box(s, leaf("a", 1), leaf("b[k]", 1)))
		}
		for kind := range 5 {
			for _, node := range nodes {
				for _, old := range nodes {
					edits = append(edits, full(kind, w, node, old))
				}
			}
		}
	}
	for i, n := range trees {
		for k, x := range edits {
			if (i+k)%3 == 0 {
				wantModel(t, n, x)
			}
		}
		for k, b := range trees {
			if (i+k)%3 == 0 {
				l := diff.Edits(n, b)
				wantApply(t, n, l, b)
				wantApply(t, b, diff.Inverse(l), n)
			}
		}
	}
}

// grown is a tree that is right, of some steps, as a source of numbers has it.
func grown(pick func(n int) int, some []api.Step, s api.Step, depth int) api.Node {
	n := api.Node{Name: s.Name, Key: s.Key}
	if depth == 0 || pick(3) == 0 {
		if pick(3) > 0 {
			n.Val = api.Val{Kind: 1 + pick(3), Num: uint64(pick(2)), Text: []string{"", "a"}[pick(2)]}
		}
		return n
	}
	for _, s := range some {
		if pick(2) == 0 {
			n.Kids = append(n.Kids, grown(pick, some, s, depth-1))
		}
	}
	return n
}

// anEdit is an edit that may go in a tree, or nearly so.
func anEdit(pick func(n int) int, some []api.Step, n api.Node) api.Edit {
	l := listOf(n)
	w := slices.Clone(l[pick(len(l))].way)
	if pick(2) == 0 || len(w) == 0 {
		w = append(w, some[pick(len(some))])
	}
	last := w[len(w)-1]
	old, _ := tree.Get(n, w)
	node := grown(pick, some, last, pick(3))
	if pick(3) == 0 {
		node = api.Node{Name: last.Name, Key: last.Key, Val: api.Val{Kind: 1 + pick(2)}}
	}
	switch pick(16) {
	case 0:
		old = grown(pick, some, last, pick(3))
	case 1:
		node.Name, node.Key = some[pick(len(some))].Name, some[pick(len(some))].Key
	case 2:
		old.Name, old.Key = some[pick(len(some))].Name, some[pick(len(some))].Key
	case 3:
		w = w[:len(w)-1]
	case 4:
		w = append(w, last)
	case 5:
		return full(pick(7)-1, w, node, old)
	}
	return full(1+pick(3), w, node, old)
}

// someSteps is steps of which names and keys are one another's beginnings.
var someSteps = []api.Step{{}, {Name: "a"}, {Name: "a", Key: "b"}, {Name: "a", Key: "\x80"}, {Name: "aa"}, {Name: "b"}, {Name: "b", Key: "a"}}

// wantRow asks of Apply what the model says of a row of edits.
func wantRow(t *testing.T, n api.Node, edits []api.Edit) {
	t.Helper()
	is, err, at := patch.Apply(n, edits)
	l, want, wantAt := modelApply(listOf(n), edits)
	if err != want || at != wantAt {
		t.Errorf("error %d at %d, want %d at %d, in %s by\n%s", err, at, want, wantAt, short(showNode(n)), short(show(edits)))
		return
	}
	if err != api.OK {
		wantZero(t, is, edits[at])
	} else if showList(listOf(is)) != showList(l) || is.Name != n.Name || is.Key != n.Key {
		t.Errorf("the tree is\n%s\nwant\n%s\nby\n%s", short(showNode(is)), short(showList(l)), short(show(edits)))
	}
}

// TestMany: trees and edits that are made at random.
func TestMany(t *testing.T) { // P17.1, P17.2, P17.3
	random := rand.New(rand.NewSource(17))
	seen := map[api.Errno]int{}
	for range 4000 {
		n := grown(random.Intn, someSteps, step("r[k]"), random.Intn(4))
		var row []api.Edit
		next := n
		for range random.Intn(8) {
			x := anEdit(random.Intn, someSteps, next)
			wantModel(t, next, x)
			is, err := patch.One(next, x)
			seen[err]++
			if err == api.OK {
				next = is
				row = append(row, x)
			} else if random.Intn(20) == 0 {
				row = append(row, x)
			}
		}
		wantRow(t, n, row)
		if b := grown(random.Intn, someSteps, step("r[k]"), random.Intn(4)); n.Val.Kind == 0 && b.Val.Kind == 0 {
			wantTurn(t, n, b)
			wantTurn(t, n, next)
		}
	}
	for _, err := range []api.Errno{api.OK, api.ErrArg, api.ErrTwice, api.NoPath, api.ErrValue} {
		if seen[err] < 100 {
			t.Errorf("error %d was seen %d times alone", err, seen[err])
		}
	}
}

// FuzzApply: the same from bytes.
func FuzzApply(f *testing.F) { // P17.1, P17.2, P17.3
	f.Add([]byte("\x01\x02\x03\x04\x05\x06\x07\x08\x09"))
	f.Add([]byte{})
	f.Fuzz(func(t *testing.T, b []byte) {
		pick := func(n int) int {
			if len(b) == 0 {
				return 0
			}
			x := int(b[0]) % n
			b = b[1:]
			return x
		}
		n := grown(pick, someSteps, step("r"), pick(4))
		var row []api.Edit
		next := n
		for len(b) > 0 && len(row) < 20 {
			x := anEdit(pick, someSteps, next)
			wantModel(t, next, x)
			if is, err := patch.One(next, x); err == api.OK {
				next = is
			} else if pick(4) > 0 {
				continue
			}
			row = append(row, x)
		}
		wantRow(t, n, row)
		if n.Val.Kind == 0 {
			wantTurn(t, n, next)
		}
	})
}

// chain is a tree of so many levels below its root, each with one kid.
func chain(levels int, end api.Node) api.Node {
	for range levels - 1 {
		end = box("a[k]", end)
	}
	return box("", end)
}

// TestDeepest has as many levels as the document allows.
func TestDeepest(t *testing.T) { // P17.1, P17.2, P17.3
	const levels = 1<<16 - 1
	a, b, none := chain(levels, leaf("z", 1)), chain(levels, leaf("z", 2)), chain(levels-1, box("a[k]"))
	front := slices.Repeat(way("a[k]"), levels-1)
	down := append(slices.Clip(front), step("z"))
	for _, c := range []struct {
		a    api.Node
		x    api.Edit
		want api.Node
		err  api.Errno
	}{
		{a, replaced(down, leaf("z", 2), leaf("z", 1)), b, api.OK}, {none, created(down, leaf("z", 2)), b, api.OK}, {a, deleted(down, leaf("z", 1)), none, api.OK},
		{api.Node{}, created(way("a[k]"), a.Kids[0]), a, api.OK}, {a, deleted(way("a[k]"), a.Kids[0]), api.Node{}, api.OK}, {a, deleted(way("a[k]"), b.Kids[0]), api.Node{}, api.ErrValue},
		{a, created(down, leaf("z", 1)), api.Node{}, api.ErrTwice}, {b, deleted(down, leaf("z", 1)), api.Node{}, api.ErrValue}, {none, deleted(down, leaf("z", 1)), api.Node{}, api.NoPath}, {none, created(append(down, step("z")), leaf("z", 1)), api.Node{}, api.NoPath},
	} {
		one, err := patch.One(c.a, c.x)
		several, errOf, at := patch.Apply(c.a, []api.Edit{c.x})
		if err != c.err || errOf != c.err || at != 0 || !tree.Same(one, c.want) || !tree.Same(several, c.want) {
			t.Errorf("errors %d and %d, want %d, of a %d", err, errOf, c.err, c.x.Kind)
		}
	}
	l := diff.Edits(a, b)
	n, err, _ := patch.Apply(a, l)
	back, errBack, _ := patch.Apply(b, diff.Inverse(l))
	if err != api.OK || errBack != api.OK || !tree.Same(n, b) || !tree.Same(back, a) {
		t.Errorf("errors %d, %d", err, errBack)
	}
}

// TestWidth has many kids of one node.
func TestWidth(t *testing.T) { // P17.1, P17.2
	const size = 50000
	var n api.Node
	for i := range size {
		n.Kids = append(n.Kids, api.Node{Name: "k", Key: strconv.Itoa(1000000 + i), Val: api.Val{Kind: 1, Num: 1}})
	}
	for _, i := range []int{0, 1, size / 2, size - 2, size - 1} {
		kid := n.Kids[i]
		w := []api.Step{{Name: kid.Name, Key: kid.Key}}
		without, err, _ := patch.Apply(n, []api.Edit{deleted(w, kid)})
		if err != api.OK || !tree.Same(without, api.Node{Kids: slices.Concat(n.Kids[:i], n.Kids[i+1:])}) {
			t.Errorf("error %d at %d", err, i)
		}
		there, err, _ := patch.Apply(without, []api.Edit{created(w, kid)})
		if err != api.OK || !tree.Same(there, n) {
			t.Errorf("error %d back at %d", err, i)
		}
	}
}
