package diff_test

import (
	"cmp"
	"slices"
	"strconv"
	"strings"

	"tollbar/api"
	"tollbar/tree"
)

// This is the chapter once more, without a walk: a tree is a table of its nodes by their ways, and edits are texts.

// showWay is a way as a text; no other way has the same one.
func showWay(way []api.Step) string {
	var b strings.Builder
	for _, step := range way {
		b.WriteString("/" + strconv.Quote(step.Name))
		if step.Key != "" {
			b.WriteString("[" + strconv.Quote(step.Key) + "]")
		}
	}
	return b.String()
}

// showNode is a tree as a text; no other tree has the same one.
func showNode(n api.Node) string {
	var b strings.Builder
	writeNode(&b, n)
	return b.String()
}

func writeNode(b *strings.Builder, n api.Node) {
	b.WriteString(showWay([]api.Step{{Name: n.Name, Key: n.Key}})[1:])
	if n.Val != (api.Val{}) {
		b.WriteString("=" + strconv.Itoa(n.Val.Kind) + "," + strconv.FormatUint(n.Val.Num, 10) + "," + strconv.Quote(n.Val.Text))
	}
	for i, kid := range n.Kids {
		b.WriteString(map[bool]string{true: "{", false: ";"}[i == 0])
		writeNode(b, kid)
	}
	if len(n.Kids) > 0 {
		b.WriteString("}")
	}
}

// showEdit is an edit as a text, with what its kind does not use too; no other edit has the same one.
func showEdit(x api.Edit) string {
	return strconv.Itoa(x.Kind) + " " + showWay(x.Way) + " " + showNode(x.Node) + " <- " + showNode(x.Old)
}

// show is edits as a text; no others have the same one.
func show(l []api.Edit) string {
	var b strings.Builder
	for _, x := range l {
		b.WriteString(showEdit(x) + "\n")
	}
	return b.String()
}

// short is the beginning of a text.
func short(s string) string { return s[:min(len(s), 700)] }

// place is where a node of a tree is: the way to it, that way as a text, and that of the way to its box.
type place struct {
	way       []api.Step
	text, box string
}

// table is the nodes of a tree.
type table struct {
	places []place
	nodes  map[string]api.Node // by their ways as texts
}

// tableOf is all nodes of a tree, in any order, the root ahead of all others.
func tableOf(n api.Node) table {
	t := table{[]place{{}}, map[string]api.Node{"": n}}
	for i := 0; i < len(t.places); i++ {
		box := t.places[i]
		for _, kid := range t.nodes[box.text].Kids {
			way := slices.Concat(box.way, []api.Step{{Name: kid.Name, Key: kid.Key}})
			text := showWay(way)
			t.places = append(t.places, place{way, text, box.text})
			t.nodes[text] = kid
		}
	}
	return t
}

// at is the node at a way, and whether it is a leaf and whether it is a box; neither: there is none.
func (t table) at(text string) (n api.Node, leaf, box bool) {
	n, ok := t.nodes[text]
	return n, ok && n.Val.Kind != 0, ok && n.Val.Kind == 0
}

// byStep holds two places against each other, step by step; one stands ahead of those that are below it.
func byStep(a, b place) int {
	return slices.CompareFunc(a.way, b.way, func(x, y api.Step) int {
		return cmp.Or(strings.Compare(x.Name, y.Name), strings.Compare(x.Key, y.Key))
	})
}

// modelEdits is what the chapter says of the edits between two trees: those at each place that is in a box of both.
func modelEdits(a, b table) []api.Edit {
	places := slices.Concat(a.places[1:], b.places[1:])
	slices.SortFunc(places, byStep)
	places = slices.CompactFunc(places, func(x, y place) bool { return x.text == y.text })
	var l []api.Edit
	for _, p := range places {
		_, _, wasOpen := a.at(p.box)
		_, _, isOpen := b.at(p.box)
		if wasOpen && isOpen {
			l = append(l, modelAt(a, b, p)...)
		}
	}
	return l
}

// modelAt is the edits at a place alone, not those below it.
func modelAt(a, b table, p place) []api.Edit {
	old, wasLeaf, wasBox := a.at(p.text)
	node, isLeaf, isBox := b.at(p.text)
	if wasBox && isBox || wasLeaf && isLeaf && old.Val == node.Val {
		return nil
	}
	if wasLeaf && isLeaf {
		return []api.Edit{{Kind: 3, Way: p.way, Node: node, Old: old}}
	}
	var l []api.Edit
	if wasLeaf || wasBox {
		l = append(l, api.Edit{Kind: 2, Way: p.way, Old: old})
	}
	if isLeaf || isBox {
		l = append(l, api.Edit{Kind: 1, Way: p.way, Node: node})
	}
	return l
}

// modelInverse is what the chapter says of the inverse.
func modelInverse(l []api.Edit) []api.Edit {
	var back []api.Edit
	for _, x := range l {
		var turned api.Edit
		turned.Way = x.Way
		if x.Kind == 1 || x.Kind == 3 {
			turned.Old = x.Node
		}
		if x.Kind == 2 || x.Kind == 3 {
			turned.Node = x.Old
		}
		if kind := map[int]int{1: 2, 2: 1, 3: 3}[x.Kind]; kind != 0 {
			turned.Kind = kind
			back = append(back, turned)
		}
	}
	slices.Reverse(back)
	return back
}

// applied is a tree behind edits, each of which must find what it says.
func applied(n api.Node, l []api.Edit) (api.Node, bool) {
	for _, x := range l {
		old, there := tree.Get(n, x.Way)
		if there != (x.Kind != 1) || there && showNode(old) != showNode(x.Old) {
			return n, false
		}
		var err api.Errno
		if x.Kind == 2 {
			n, err = tree.Cut(n, x.Way)
		} else {
			n, err = tree.Set(n, x.Way, x.Node)
		}
		if err != api.OK {
			return n, false
		}
	}
	return n, true
}
