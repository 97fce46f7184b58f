package patch_test

import (
	"cmp"
	"slices"
	"strconv"
	"strings"

	"tollbar/api"
)

// This is the chapter once more, without trees: a tree is the list of its nodes, each with the way to it, in the order in which a walk meets them.

// entry is a node without its kids, and where it is.
type entry struct {
	way []api.Step
	val api.Val
}

// listOf is a tree as a list. No two trees whose roots have the same step have the same list.
func listOf(n api.Node) []entry { return addTo(nil, nil, n) }

func addTo(l []entry, way []api.Step, n api.Node) []entry {
	l = append(l, entry{way, n.Val})
	for _, kid := range n.Kids {
		l = addTo(l, slices.Concat(way, []api.Step{{Name: kid.Name, Key: kid.Key}}), kid)
	}
	return l
}

// showWay is a way as a text; no other way has the same one.
func showWay(way []api.Step) string {
	var b strings.Builder
	for _, step := range way {
		b.WriteString("/" + strconv.Quote(step.Name))
		if step.Key != "" {
			b.WriteString("[" + strconv.Quote(step.Key) + "]")
		}
	}
	return b.String()
}

// showList is a list as a text; no other list has the same one.
func showList(l []entry) string {
	var b strings.Builder
	for _, e := range l {
		b.WriteString(showWay(e.way))
		if e.val != (api.Val{}) {
			b.WriteString("=" + strconv.Itoa(e.val.Kind) + "," + strconv.FormatUint(e.val.Num, 10) + "," + strconv.Quote(e.val.Text))
		}
		b.WriteString(";")
	}
	return b.String()
}

// showNode is a tree as a text; no other tree has the same one.
func showNode(n api.Node) string {
	return showWay([]api.Step{{Name: n.Name, Key: n.Key}}) + showList(listOf(n))
}

// showEdit is an edit as a text, with what its kind does not use too; no other edit has the same one.
func showEdit(x api.Edit) string {
	return strconv.Itoa(x.Kind) + " " + showWay(x.Way) + " " + showNode(x.Node) + " <- " + showNode(x.Old)
}

// show is edits as a text; no others have the same one.
func show(l []api.Edit) string {
	var b strings.Builder
	for _, x := range l {
		b.WriteString(showEdit(x) + "\n")
	}
	return b.String()
}

// short is the beginning of a text.
func short(s string) string { return s[:min(len(s), 700)] }

// modelOne is what the chapter says of an edit of a tree.
func modelOne(l []entry, x api.Edit) ([]entry, api.Errno) {
	if err := modelArg(x); err != 0 {
		return nil, err
	}
	was := below(l, x.Way)
	if x.Kind == 1 && len(was) > 0 {
		return nil, 24
	}
	if x.Kind != 1 && len(was) == 0 {
		return nil, 30
	}
	if x.Kind != 1 && showList(was) != showList(listOf(x.Old)) {
		return nil, 23
	}
	if x.Kind == 3 && (x.Node.Val.Kind == 0 || x.Old.Val.Kind == 0) {
		return nil, 23
	}
	box := below(l, x.Way[:len(x.Way)-1])
	if len(box) == 0 || box[0].val.Kind != 0 {
		return nil, 30
	}
	l = slices.DeleteFunc(slices.Clone(l), func(e entry) bool { return isBelow(e.way, x.Way) })
	if x.Kind != 2 {
		l = append(l, addTo(nil, x.Way, x.Node)...)
	}
	slices.SortFunc(l, func(a, b entry) int { return compareWays(a.way, b.way) })
	return l, 0
}

// modelArg is ErrArg for an edit that may not be asked for.
func modelArg(x api.Edit) api.Errno {
	if len(x.Way) == 0 || x.Kind < 1 || x.Kind > 3 {
		return 1
	}
	end := showWay(x.Way[len(x.Way)-1:])
	if x.Kind != 2 && end != showWay([]api.Step{{Name: x.Node.Name, Key: x.Node.Key}}) {
		return 1
	}
	if x.Kind != 1 && end != showWay([]api.Step{{Name: x.Old.Name, Key: x.Old.Key}}) {
		return 1
	}
	return 0
}

// isBelow tells whether one way is another one or goes on from its end.
func isBelow(way, front []api.Step) bool {
	return strings.HasPrefix(showWay(way)+"/", showWay(front)+"/")
}

// below is the node at a way, as a list of its own; empty: there is none.
func below(l []entry, way []api.Step) []entry {
	var found []entry
	for _, e := range l {
		if isBelow(e.way, way) {
			found = append(found, entry{e.way[len(way):], e.val})
		}
	}
	return found
}

// compareWays holds two ways against each other, step by step; one stands ahead of those that go on from its end.
func compareWays(a, b []api.Step) int {
	return slices.CompareFunc(a, b, func(x, y api.Step) int {
		return cmp.Or(strings.Compare(x.Name, y.Name), strings.Compare(x.Key, y.Key))
	})
}

// modelApply is what the chapter says of several edits of a tree.
func modelApply(l []entry, edits []api.Edit) ([]entry, api.Errno, int) {
	for i, x := range edits {
		next, err := modelOne(l, x)
		if err != 0 {
			return nil, err, i
		}
		l = next
	}
	return l, 0, 0
}
