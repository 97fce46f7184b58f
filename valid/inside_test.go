package valid

import (
	"slices"
	"strings"
	"testing"

	"tollbar/api"
	"tollbar/spec"
)

// No version has a box below its root, and no tree that Check goes into has kids of one name with others between: these tests hand both to what is inside.

func steps(l ...string) []api.Step {
	var w []api.Step
	for _, s := range l {
		name, key, _ := strings.Cut(strings.TrimSuffix(s, "]"), "[")
		w = append(w, api.Step{Name: name, Key: key})
	}
	return w
}

func node(s string, kids ...api.Node) api.Node {
	w := steps(s)
	return api.Node{Name: w[0].Name, Key: w[0].Key, Kids: kids}
}

func leaf(s string) api.Node {
	n := node(s)
	n.Val = api.Val{Kind: api.Bool}
	return n
}

// boxes is a Spec whose boxes stand in boxes and in items, and items in boxes.
func boxes() spec.Spec {
	l := spec.Spec{Name: "l", Kind: spec.Leaf, Type: api.Bool, Must: true}
	inner := spec.Spec{Name: "c", Kind: spec.Box, Kids: []spec.Spec{l}}
	item := spec.Spec{Name: "i", Kind: spec.List, Most: 2, Kids: []spec.Spec{inner}}
	outer := spec.Spec{Name: "b", Kind: spec.Box, Kids: []spec.Spec{inner, item}}
	must := spec.Spec{Name: "m", Kind: spec.Box, Must: true, Kids: []spec.Spec{inner}}
	return spec.Spec{Kind: spec.Box, Kids: []spec.Spec{must, outer, item}}
}

func want(t *testing.T, n api.Node, err api.Errno, at ...string) {
	t.Helper()
	if got, w := first(inside(boxes(), n)); got != err || !slices.Equal(w, steps(at...)) {
		t.Errorf("%v: %d at %v, not %d at %v", n, got, w, err, at)
	}
}

func TestBoxes(t *testing.T) { // P10.2
	m := node("m")
	c := node("c", leaf("l"))
	val := func(n api.Node) api.Node {
		n.Val.Kind = api.Uint
		return n
	}
	want(t, node("", m), api.OK)
	want(t, node("", node("b", c, node("i[x]", c), node("i[y]", c)), m), api.OK)
	want(t, node(""), api.ErrLack, "m")
	want(t, node("", node("b", c)), api.ErrLack, "m")
	want(t, node("", node("b[k]", c), m), api.ErrValue, "b[k]")
	want(t, node("", node("b[A]", c), m), api.ErrValue, "b[A]")
	want(t, node("", val(node("b")), m), api.ErrValue, "b")
	want(t, node("", val(node("b", node("z"))), m), api.ErrValue, "b")
	want(t, node("", node("m[k]")), api.ErrValue, "m[k]")
	want(t, node("", node("b", node("z")), m), api.ErrName, "b", "z")
	want(t, node("", node("b", node("c[k]", leaf("l"))), m), api.ErrValue, "b", "c[k]")
	want(t, node("", node("b", val(node("c", leaf("l")))), m), api.ErrValue, "b", "c")
	want(t, node("", node("b", node("c")), m), api.ErrLack, "b", "c", "l")
	want(t, node("", node("b", node("c", node("l"))), m), api.ErrValue, "b", "c", "l")
	want(t, node("", node("b", node("c", leaf("l[k]"))), m), api.ErrValue, "b", "c", "l[k]")
	want(t, node("", node("b", node("c", leaf("l"), leaf("z"))), m), api.ErrName, "b", "c", "z")
	want(t, node("", node("b", node("i[x]", node("c")))), api.ErrLack, "b", "i[x]", "c", "l")
	want(t, node("", node("i[x]", node("c[k]"))), api.ErrValue, "i[x]", "c[k]")
	want(t, node("", node("i[x]", node("c"))), api.ErrLack, "i[x]", "c", "l")
	want(t, node("", node("m", node("c"))), api.ErrLack, "m", "c", "l")
}

func TestLeafWithKids(t *testing.T) { // P10.2
	l := leaf("l")
	l.Kids = []api.Node{leaf("x")}
	want(t, node("", node("m", node("c", l))), api.ErrValue, "m", "c", "l")
}

func TestMostBetween(t *testing.T) { // P10.2
	m := node("m")
	b := node("b")
	want(t, node("", node("i[x]"), m, node("i[y]"), b), api.OK)
	want(t, node("", node("i[x]"), m, node("i[y]"), b, node("i[z]")), api.ErrMany, "i[z]")
	want(t, node("", b, b, b, m, m, node("i[x]"), node("i[y]")), api.OK)
	want(t, node("", m, node("i[x]"), b, node("i[y]"), node("b", node("i[x]"), node("c", leaf("l")), node("i[y]"), node("i[z]")), node("i[z]")), api.ErrMany, "b", "i[z]")
	want(t, node("", m, node("i[x]"), node("i[y]"), node("b", node("i[x]"), node("i[y]")), node("i[z]")), api.ErrMany, "i[z]")
}

// TestStops: behind the first problem that is taken no other is looked for, and all of them stand in their order.
func TestStops(t *testing.T) { // P10.2
	n := node("", node("a"), node("b[k]", node("z"), node("c")), node("i[A]"), node("i[x]", node("z")), node("i[y]"))
	all := []api.Errno{api.ErrName, api.ErrValue, api.ErrName, api.ErrLack, api.ErrValue, api.ErrName, api.ErrMany, api.ErrLack}
	for count := range len(all) + 1 {
		var got []api.Errno
		for p := range inside(boxes(), n) {
			got = append(got, p.err)
			if len(got) == count+1 {
				break
			}
		}
		if !slices.Equal(got, all[:min(count+1, len(all))]) {
			t.Errorf("%d: %v", count, got)
		}
	}
}
