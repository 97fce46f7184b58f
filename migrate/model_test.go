package migrate_test

import (
	"cmp"
	"slices"
	"strconv"
	"strings"

	"tollbar/api"
	"tollbar/valid"
)

// This is the chapter once more, without trees: a tree is the list of its nodes, each with the way to it, in order.

// entry is a node without its kids, and where it is.
type entry struct {
	way []api.Step
	val api.Val
}

// listOf is the nodes of a tree, in the order in which a walk meets them.
func listOf(n api.Node) []entry { return addTo(nil, nil, n) }

func addTo(l []entry, way []api.Step, n api.Node) []entry {
	l = append(l, entry{way, n.Val})
	for _, kid := range n.Kids {
		l = addTo(l, slices.Concat(way, []api.Step{{Name: kid.Name, Key: kid.Key}}), kid)
	}
	return l
}

// showWay is a way as a text; no other way has the same one.
func showWay(way []api.Step) string {
	var b strings.Builder
	for _, step := range way {
		b.WriteString("/" + strconv.Quote(step.Name))
		if step.Key != "" {
			b.WriteString("[" + strconv.Quote(step.Key) + "]")
		}
	}
	return b.String()
}

// showList is a list as a text; no other list has the same one.
func showList(l []entry) string {
	var b strings.Builder
	for _, e := range l {
		b.WriteString(showWay(e.way))
		if e.val != (api.Val{}) {
			b.WriteString("=" + strconv.Itoa(e.val.Kind) + "," + strconv.FormatUint(e.val.Num, 10) + "," + strconv.Quote(e.val.Text))
		}
		b.WriteString(";")
	}
	return b.String()
}

// show is a tree as a text; no other tree has the same one.
func show(n api.Node) string {
	return showWay([]api.Step{{Name: n.Name, Key: n.Key}}) + showList(listOf(n))
}

// sameList tells whether two lists are the same, and same whether two trees are; they are sooner told so than by their texts.
func sameList(a, b []entry) bool {
	return slices.EqualFunc(a, b, func(x, y entry) bool { return x.val == y.val && slices.Equal(x.way, y.way) })
}

func same(a, b api.Node) bool {
	return a.Name == b.Name && a.Key == b.Key && a.Val == b.Val && slices.EqualFunc(a.Kids, b.Kids, same)
}

// short is the beginning of a text.
func short(s string) string { return s[:min(len(s), 1500)] }

// names is what the steps of a way are named.
func names(way []api.Step) string {
	var l []string
	for _, step := range way {
		l = append(l, step.Name)
	}
	return strings.Join(l, "/")
}

// modelUp is a tree of version 1 or 2 as one of the next.
func modelUp(version int, l []entry) []entry {
	var next []entry
	for _, e := range l {
		if version == 2 && names(e.way) == "port/class/limit" {
			e.way = slices.Concat(e.way[:2], []api.Step{{Name: "depth"}})
		}
		next = append(next, e)
		if version == 1 && names(e.way) == "port/class" {
			next = append(next, entry{slices.Concat(e.way, []api.Step{{Name: "shaped"}}), api.Val{Kind: api.Bool, Num: 1}})
		}
	}
	return inOrder(next)
}

// modelDown is a tree of version 2 or 3 as one of the previous.
func modelDown(version int, l []entry) []entry {
	var next []entry
	for _, e := range l {
		switch strconv.Itoa(version) + " " + names(e.way) {
		case "3 wait", "2 port/kind", "2 port/class/shaped":
			continue
		case "3 port/class/depth":
			e.way = slices.Concat(e.way[:2], []api.Step{{Name: "limit"}})
		}
		next = append(next, e)
	}
	return inOrder(next)
}

// inOrder is a list in the order in which a walk meets the nodes of a sorted tree: a way stands ahead of those that go on from its end.
func inOrder(l []entry) []entry {
	slices.SortFunc(l, func(a, b entry) int {
		return slices.CompareFunc(a.way, b.way, func(x, y api.Step) int {
			return cmp.Or(strings.Compare(x.Name, y.Name), strings.Compare(x.Key, y.Key))
		})
	})
	return l
}

// modelTo is what the chapter says of To.
func modelTo(version, to int, n api.Node) ([]entry, api.Errno) {
	if err, _ := valid.Check(version, n); err != 0 {
		return nil, err
	}
	if to != 1 && to != 2 && to != 3 {
		return nil, 28
	}
	return modelPath(version, to, listOf(n)), 0
}

func modelPath(version, to int, l []entry) []entry {
	switch {
	case version < to:
		return modelPath(version+1, to, modelUp(version, l))
	case version > to:
		return modelPath(version-1, to, modelDown(version, l))
	}
	return l
}

// modelLoses is what the chapter says of Loses, without a conversion back: what there is no room for is counted.
func modelLoses(version, to int, n api.Node) bool {
	if _, err := modelTo(version, to, n); err != 0 {
		return false
	}
	for _, e := range listOf(n) {
		switch names(e.way) {
		case "wait":
			if to < 3 {
				return true
			}
		case "port/kind":
			if to < 2 {
				return true
			}
		case "port/class/shaped":
			if to < 2 && e.val.Num == 0 {
				return true
			}
		}
	}
	return false
}
