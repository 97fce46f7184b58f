package patch_test

import (
	"slices"
	"strconv"
	"strings"
	"testing"

	"tollbar/api"
	"tollbar/diff"
	"tollbar/patch"
)

// roomy is a tree that is the same, each of whose lists of kids has room behind it, with nodes in it.
func roomy(n api.Node) api.Node {
	kids := make([]api.Node, 0, len(n.Kids)+2)
	for _, kid := range n.Kids {
		kids = append(kids, roomy(kid))
	}
	for i := len(kids); i < cap(kids); i++ {
		kids[:cap(kids)][i] = box("spare", leaf("kid", uint64(i)))
	}
	n.Kids = kids
	return n
}

// roomyEdits is edits that are the same, with room behind each list, and something in it.
func roomyEdits(l []api.Edit) []api.Edit {
	var r []api.Edit
	for _, x := range l {
		w := append(slices.Clone(x.Way), way("spare", "room[k]")...)
		r = append(r, full(x.Kind, w[:len(x.Way)], roomy(x.Node), roomy(x.Old)))
	}
	return append(r, created(way("spare"), leaf("spare", 1)))[:len(r)]
}

// image is all that a tree has, the room behind its lists too.
func image(n api.Node) string {
	var b strings.Builder
	writeImage(&b, n)
	return b.String()
}

func writeImage(b *strings.Builder, n api.Node) {
	b.WriteString(showNode(api.Node{Name: n.Name, Key: n.Key, Val: n.Val}) + strconv.Itoa(len(n.Kids)) + "(")
	for _, kid := range n.Kids[:cap(n.Kids)] {
		writeImage(b, kid)
	}
	b.WriteString(")")
}

// imageOf is all that edits have, the room behind their lists too.
func imageOf(l []api.Edit) string {
	var b strings.Builder
	b.WriteString(strconv.Itoa(len(l)))
	for _, x := range l[:cap(l)] {
		b.WriteString(" " + strconv.Itoa(x.Kind) + " " + strconv.Itoa(len(x.Way)) + showWay(x.Way[:cap(x.Way)]))
		writeImage(&b, x.Node)
		writeImage(&b, x.Old)
	}
	return b.String()
}

// memory is all places in memory that are known to be taken.
type memory map[*api.Node]bool

// take tells whether all places of a tree, and of the room behind its lists, were free, and takes them.
func (m memory) take(n api.Node) bool {
	free := true
	kids := n.Kids[:cap(n.Kids)]
	for i := range kids {
		free = free && !m[&kids[i]]
		m[&kids[i]] = true
	}
	for _, kid := range kids {
		free = m.take(kid) && free
	}
	return free
}

// spoil writes over all kids of a tree.
func spoil(n api.Node) {
	for i := range n.Kids {
		spoil(n.Kids[i])
		n.Kids[i] = leaf("spoilt", 99)
	}
}

// row is a tree, and edits that go in it or do not, made anew.
type row struct {
	n api.Node
	l []api.Edit
}

// rows is functions that make rows with edits of each kind, some of which have memory in common.
func rows() []func() row {
	other := func() api.Node {
		return box("", port("a", box("class[be]", leaf("depth", 9)), class("new", 1), box("default"), rule("r", "new", 10, 11)), box("port[aa]", leaf("x", 1)), port("b", text("default", "y")), leaf("wait", 1))
	}
	many := func(a, b api.Node) row { return row{roomy(a), roomyEdits(diff.Edits(a, b))} }
	return []func() row{
		func() row { return many(example(), other()) },
		func() row { return many(other(), example()) },
		func() row { return many(api.Node{}, example()) },
		func() row { return many(example(), api.Node{}) },
		func() row { return many(example(), example()) },
		func() row { return row{roomy(example()), nil} },
		func() row { return row{leaf("a", 1), nil} },
		func() row { // one list of kids, of the tree, of what is created and of what is deleted
			kids := roomy(box("", leaf("a", 1), box("b", leaf("c", 1)))).Kids
			n := box("", box("p", kids...), box("q", kids...))
			w := append(way("p"), step("spare"))
			return row{n, []api.Edit{full(1, way("r"), box("r", kids...), n), full(2, w[:1], n, n.Kids[0]), full(1, w[:1], box("p", n.Kids...), box("p", kids...)), replaced(way("p", "q", "a"), leaf("a", 5), leaf("a", 1)), created(way("s"), box("s", kids[:1]...))}}
		},
		func() row { // a leaf with room for kids
			n := roomy(box("", leaf("m", 1)))
			return row{n, []api.Edit{replaced(way("m"), roomy(leaf("m", 2)), n.Kids[0]), created(way("a"), roomy(leaf("a", 1))), created(way("z"), roomy(box("z")))}}
		},
		func() row { // ones that do not go
			n := roomy(example())
			return row{n, []api.Edit{created(way("port[a]"), n.Kids[0]), deleted(way("port[a]"), n.Kids[1]), replaced(way("port[a]"), n.Kids[0], n.Kids[0]), deleted(way("port[a]"), n.Kids[0]), created(way("port[c]"), n.Kids[0])}}
		},
	}
}

// answers is the trees that the calls make of a row.
func answers(r row) []api.Node {
	n, _, _ := patch.Apply(r.n, r.l)
	l := []api.Node{n}
	next := r.n
	for _, x := range r.l {
		if is, err := patch.One(next, x); err == api.OK {
			l = append(l, is)
			next = is
		}
	}
	for _, x := range r.l {
		if is, err := patch.One(r.n, x); err == api.OK {
			l = append(l, is)
		}
	}
	return l
}

// TestNewMemory: no place in memory belongs to two lists of answers and arguments.
func TestNewMemory(t *testing.T) { // P17.1, P17.2
	for i, fresh := range rows() {
		r := fresh()
		m := memory{}
		m.take(r.n)
		for _, x := range r.l[:cap(r.l)] {
			m.take(x.Node)
			m.take(x.Old)
		}
		for k, n := range answers(r) {
			if !m.take(n) {
				t.Errorf("row %d: answer %d shares memory", i, k)
			}
		}
	}
}

// TestArguments: what is handed in stays as it is, its room too, what stands in its room plays no part, and the same is answered again.
func TestArguments(t *testing.T) { // P17.1, P17.2
	for i, fresh := range rows() {
		r := fresh()
		was, edits := image(r.n), imageOf(r.l)
		l := answers(r)
		wantRow(t, r.n, r.l)
		for _, x := range r.l {
			wantModel(t, r.n, x)
		}
		for k, n := range answers(fresh()) {
			if showNode(n) != showNode(l[k]) {
				t.Errorf("row %d: answer %d is\n%s, later\n%s", i, k, short(showNode(l[k])), short(showNode(n)))
			}
		}
		if image(r.n) != was || imageOf(r.l) != edits {
			t.Errorf("row %d: what was handed in changed", i)
		}
		for _, n := range l {
			spoil(n)
		}
		if image(r.n) != was || imageOf(r.l) != edits {
			t.Errorf("row %d: what was handed in changed with an answer", i)
		}
	}
}

// TestKept: what becomes of the arguments is not seen in an answer.
func TestKept(t *testing.T) { // P17.1, P17.2
	for i, fresh := range rows() {
		r := fresh()
		l := answers(r)
		var was []string
		for _, n := range l {
			was = append(was, image(n))
		}
		spoil(r.n)
		for k := range r.l {
			clear(r.l[k].Way)
			spoil(r.l[k].Node)
			spoil(r.l[k].Old)
		}
		clear(r.l)
		for k, n := range l {
			if image(n) != was[k] {
				t.Errorf("row %d: answer %d\n%s\nbecame\n%s", i, k, short(was[k]), short(image(n)))
			}
		}
	}
}

// TestWrongTrees: every call returns for trees that nothing is promised of too, and changes nothing.
func TestWrongTrees(t *testing.T) {
	wrong := func() []api.Node {
		return []api.Node{
			leaf("a", 1), box("", leaf("b", 1), leaf("a", 1)), box("a", leaf("a", 1), leaf("a", 2)), box("", box("a", leaf("b", 1)), box("a", leaf("b", 2)), leaf("a", 3)), {Name: "a", Val: api.Val{Kind: 1}, Kids: []api.Node{leaf("a", 1)}},
			{Name: "a", Val: api.Val{Num: 1, Text: "a"}}, box("", api.Node{Name: "a", Val: api.Val{Kind: 1}, Kids: []api.Node{leaf("a", 1)}}), box("a", api.Node{Name: "a", Val: api.Val{Num: 1}}), {}, example(),
		}
	}
	for i := range wrong() {
		for k := range wrong() {
			for _, w := range [][]api.Step{nil, way("a"), way("b"), way("a", "a"), way("a", "b")} {
				n, x := roomy(wrong()[i]), roomy(wrong()[k])
				var l []api.Edit
				for kind := range 5 {
					l = append(l, full(kind, w, x, x), full(kind, w, leaf("a", 2), x), full(kind, w, x, n), full(kind, w, x, leaf("a", 1)))
				}
				was, edits := image(n), imageOf(l)
				patch.Apply(n, l)
				for _, x := range l {
					is, err := patch.One(n, x)
					if err != api.OK {
						wantZero(t, is, x)
					}
					spoil(is)
				}
				if image(n) != was || imageOf(l) != edits {
					t.Errorf("%s and %s changed", showNode(wrong()[i]), showNode(wrong()[k]))
				}
			}
		}
	}
}
