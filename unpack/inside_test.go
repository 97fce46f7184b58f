package unpack

import (
	"slices"
	"strconv"
	"testing"

	"tollbar/api"
	"tollbar/spec"
	"tollbar/tlv"
	"tollbar/tree"
)

// No version has a box below its root: these tests hand boxes that stand in boxes, and in items, to what is inside.

// other is a Spec whose boxes stand in boxes and in items, and items in boxes; no kids stand in the order of their names.
func other() spec.Spec {
	leaves := func(kids ...spec.Spec) []spec.Spec {
		return append([]spec.Spec{
			{Name: "z", Kind: spec.Leaf, Type: api.Uint, Max: 9},
			{Name: "y", Kind: spec.Leaf, Type: api.Enum, Names: []string{"one", "", "t w o"}},
		}, kids...)
	}
	inner := spec.Spec{Name: "inner", Kind: spec.Box, Kids: leaves()}
	item := spec.Spec{Name: "item", Kind: spec.List, Most: 1, Kids: leaves(inner)}
	outer := spec.Spec{Name: "outer", Kind: spec.Box, Must: true, Kids: leaves(item, inner)}
	return spec.Spec{Kind: spec.Box, Kids: leaves(outer, item, inner)}
}

// The tags of other's kids, of those of outer, and of those of an item.
const (
	outerTag = 7
	itemTag  = 9
	innerTag = 11

	outerItemTag  = 7
	outerInnerTag = 9
	itemInnerTag  = 7
)

func node(name, key string, kids ...api.Node) api.Node {
	return api.Node{Name: name, Key: key, Kids: kids}
}

func z(num uint64) api.Node { return api.Node{Name: "z", Val: api.Val{Kind: api.Uint, Num: num}} }

func y(text string) api.Node { return api.Node{Name: "y", Val: api.Val{Kind: api.Enum, Text: text}} }

func data(tag uint64, b ...byte) tlv.Item { return tlv.Item{Tag: tag, Data: b} }

func within(tag uint64, l ...tlv.Item) tlv.Item { return tlv.Item{Tag: tag, Kids: l} }

func named(tag uint64, key string, l ...tlv.Item) tlv.Item {
	return within(tag, append([]tlv.Item{data(0, []byte(key)...)}, l...)...)
}

func show(n api.Node) string {
	s := n.Name + "[" + n.Key + "]" + strconv.Itoa(n.Val.Kind) + ":" + strconv.FormatUint(n.Val.Num, 10) + ":" + strconv.Quote(n.Val.Text) + "("
	for _, kid := range n.Kids {
		s += show(kid)
	}
	return s + ")"
}

// wantKids has items be kids, in the order in which they stand there, wherever they begin.
func wantKids(t *testing.T, l []tlv.Item, want ...api.Node) {
	t.Helper()
	for _, begin := range []int{0, 1, 100} {
		kids, err, at := kidsOf(other(), l, begin)
		if !slices.EqualFunc(kids, want, tree.Same) || err != api.OK || at != 0 {
			t.Errorf("%v is %s, %d at %d, not %s", l, show(node("", "", kids...)), err, at, show(node("", "", want...)))
		}
	}
}

// wantProblem has items be refused at an offset from where they begin.
func wantProblem(t *testing.T, want api.Errno, place int, l ...tlv.Item) {
	t.Helper()
	for _, begin := range []int{0, 1, 100} {
		kids, err, at := kidsOf(other(), l, begin)
		if len(kids) != 0 || err != want || at != begin+place {
			t.Errorf("%v is %s, %d at %d, not %d at %d", l, show(node("", "", kids...)), err, at, want, begin+place)
		}
	}
}

func TestBoxes(t *testing.T) { // P14.2
	wantKids(t, nil)
	wantKids(t, []tlv.Item{within(innerTag)}, node("inner", ""))
	wantKids(t, []tlv.Item{within(innerTag, data(2, 1), data(4, 0))}, node("inner", "", z(1), y("one")))
	wantKids(t, []tlv.Item{within(outerTag, data(2), within(outerInnerTag, data(4, 1))), within(innerTag, data(4, 2))},
		node("outer", "", z(0), node("inner", "", y(""))), node("inner", "", y("t w o")))
	// What is in a box plays no part beside it.
	wantKids(t, []tlv.Item{within(outerTag, named(outerItemTag, "b"), within(outerInnerTag, data(4, 0))), named(itemTag, "a")},
		node("outer", "", node("item", "b"), node("inner", "", y("one"))), node("item", "a"))
	wantKids(t, []tlv.Item{
		data(2, 9),
		within(outerTag, named(outerItemTag, "a", within(itemInnerTag)), named(outerItemTag, "b", within(itemInnerTag, data(2, 5))), within(outerInnerTag)),
		named(itemTag, "c", data(2, 6), within(itemInnerTag, data(4, 0))),
		named(itemTag, "d"),
		within(innerTag),
	},
		z(9),
		node("outer", "", node("item", "a", node("inner", "")), node("item", "b", node("inner", "", z(5))), node("inner", "")),
		node("item", "c", z(6), node("inner", "", y("one"))),
		node("item", "d"),
		node("inner", ""))
}

func TestNoBoxes(t *testing.T) { // P14.2
	// A box has no key.
	wantProblem(t, api.ErrName, 2, named(innerTag, "a"))
	wantProblem(t, api.ErrName, 2, named(outerTag, "a", data(2, 1)))
	wantProblem(t, api.ErrName, 7, named(itemTag, "a", named(itemInnerTag, "b")))
	// A box is there once.
	wantProblem(t, api.ErrForm, 2, within(innerTag), within(innerTag))
	wantProblem(t, api.ErrForm, 2, within(outerTag), within(outerTag, data(6)))
	wantProblem(t, api.ErrForm, 9, within(outerTag, named(outerItemTag, "a"), within(outerInnerTag), within(outerInnerTag)))
	wantProblem(t, api.ErrForm, 7, named(itemTag, "a", within(itemInnerTag), within(itemInnerTag)))
	// It stands at its place.
	wantProblem(t, api.ErrForm, 2, within(innerTag), within(outerTag))
	wantProblem(t, api.ErrForm, 2, within(innerTag), named(itemTag, "a"))
	wantProblem(t, api.ErrForm, 4, within(outerTag, within(outerInnerTag), named(outerItemTag, "a")))
	wantProblem(t, api.ErrForm, 2, within(outerTag), data(2, 1))
	// What is in it is looked at like what is in others, ahead of what follows it.
	wantProblem(t, api.ErrValue, 2, within(innerTag, data(2, 10)), within(innerTag))
	wantProblem(t, api.ErrValue, 5, within(innerTag, data(2, 1), data(4, 3)), data(6))
	wantProblem(t, api.ErrName, 4, within(outerTag, within(outerInnerTag, data(6))), within(5))
	wantProblem(t, api.ErrForm, 2, within(outerTag, within(outerItemTag, data(2))))
	wantProblem(t, api.ErrValue, 2, within(outerTag, named(outerItemTag, "A", data(6))))
	wantProblem(t, api.ErrForm, 7, within(outerTag, named(outerItemTag, "a"), named(outerItemTag, "a", data(6))))
	wantProblem(t, api.ErrValue, 14, data(2), within(outerTag, named(outerItemTag, "a"), named(outerItemTag, "b", data(2, 10))), data(6))
}
