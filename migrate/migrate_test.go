package migrate_test

import (
	"math"
	"slices"
	"strings"
	"testing"

	"tollbar/api"
	"tollbar/migrate"
	"tollbar/tree"
	"tollbar/valid"
)

// The calls of the chapter, with just these signatures.
var (
	_ func(int, api.Node) (api.Node, api.Errno)      = migrate.Up
	_ func(int, api.Node) (api.Node, api.Errno)      = migrate.Down
	_ func(int, int, api.Node) (api.Node, api.Errno) = migrate.To
	_ func(int, int, api.Node) bool                  = migrate.Loses
)

// step is the step of a short text: a name, or a name and a key in brackets.
func step(s string) api.Step {
	name, key, _ := strings.Cut(strings.TrimSuffix(s, "]"), "[")
	return api.Step{Name: name, Key: key}
}

// box is a node that is no leaf; those below are leaves.
func box(s string, kids ...api.Node) api.Node {
	return api.Node{Name: step(s).Name, Key: step(s).Key, Kids: kids}
}

func leaf(s string, kind int, num uint64, text string) api.Node {
	n := box(s)
	n.Val = api.Val{Kind: kind, Num: num, Text: text}
	return n
}

func num(s string, x uint64) api.Node  { return leaf(s, api.Uint, x, "") }
func rate(s string, x uint64) api.Node { return leaf(s, api.Rate, x, "") }
func flag(s string, x uint64) api.Node { return leaf(s, api.Bool, x, "") }
func enum(s, text string) api.Node     { return leaf(s, api.Enum, 0, text) }
func ident(s, text string) api.Node    { return leaf(s, api.Ident, 0, text) }
func ref(s, text string) api.Node      { return leaf(s, api.Ref, 0, text) }

// class1, class2 and class3 are classes of a version, with a limit or a depth, and shaped or not.
func class1(key string, limit uint64) api.Node {
	return box("class["+key+"]", num("burst", 3000), num("limit", limit), num("quantum", 1500), rate("rate", 1000))
}

func class2(key string, limit, shaped uint64) api.Node {
	return box("class["+key+"]", num("burst", 3000), num("limit", limit), num("quantum", 1500), rate("rate", 1000), flag("shaped", shaped))
}

func class3(key string, depth, shaped uint64) api.Node {
	return box("class["+key+"]", num("burst", 3000), num("depth", depth), num("quantum", 1500), rate("rate", 1000), flag("shaped", shaped))
}

func rule(key, class string) api.Node {
	return box("rule["+key+"]", ref("class", class), num("high", 19), num("low", 10))
}

func port(key string, kids ...api.Node) api.Node { return box("port["+key+"]", kids...) }

// many1 is a tree of version 1 with all that it may have, and with keys and texts that are names of leaves too; many2 and many3 are that tree as the next versions have it.
func many1() api.Node {
	return box("",
		port("class", class1("a", 1), class1("depth", 64), class1("limit", 2), class1("shaped", 3), ref("default", "shaped"), rule("class", "limit"), rule("limit", "depth"), rule("shaped", "shaped"), flag("up", 0)),
		port("kind", class1("kind", 4), ref("default", "kind")),
		port("port", class1("class", 5), class1("port", 6), ref("default", "class"), rule("wait", "port"), flag("up", 1)),
		port("wait", class1("wait", 7), ref("default", "wait"), rule("kind", "wait")),
		ident("system", "limit"))
}

func many2() api.Node {
	return box("",
		port("class", class2("a", 1, 1), class2("depth", 64, 1), class2("limit", 2, 1), class2("shaped", 3, 1), ref("default", "shaped"), rule("class", "limit"), rule("limit", "depth"), rule("shaped", "shaped"), flag("up", 0)),
		port("kind", class2("kind", 4, 1), ref("default", "kind")),
		port("port", class2("class", 5, 1), class2("port", 6, 1), ref("default", "class"), rule("wait", "port"), flag("up", 1)),
		port("wait", class2("wait", 7, 1), ref("default", "wait"), rule("kind", "wait")),
		ident("system", "limit"))
}

func many3() api.Node {
	return box("",
		port("class", class3("a", 1, 1), class3("depth", 64, 1), class3("limit", 2, 1), class3("shaped", 3, 1), ref("default", "shaped"), rule("class", "limit"), rule("limit", "depth"), rule("shaped", "shaped"), flag("up", 0)),
		port("kind", class3("kind", 4, 1), ref("default", "kind")),
		port("port", class3("class", 5, 1), class3("port", 6, 1), ref("default", "class"), rule("wait", "port"), flag("up", 1)),
		port("wait", class3("wait", 7, 1), ref("default", "wait"), rule("kind", "wait")),
		ident("system", "limit"))
}

// full2 and full3 are one tree of versions 2 and 3 with all that version 2 may have, full1 is what version 1 has of it.
func full1() api.Node {
	return box("",
		port("a", class1("be", 8), class1("gold", 4), class1("idle", 1), ref("default", "be"), rule("r", "gold"), flag("up", 1)),
		port("b", class1("x", 64), ref("default", "x"), rule("r", "x"), rule("s", "x")),
		port("c", class1("x", 2), ref("default", "x"), flag("up", 0)),
		ident("system", "s"))
}

func full2() api.Node {
	return box("",
		port("a", class2("be", 8, 1), class2("gold", 4, 0), class2("idle", 1, 1), ref("default", "be"), enum("kind", "core"), rule("r", "gold"), flag("up", 1)),
		port("b", class2("x", 64, 0), ref("default", "x"), enum("kind", "edge"), rule("r", "x"), rule("s", "x")),
		port("c", class2("x", 2, 0), ref("default", "x"), flag("up", 0)),
		ident("system", "s"))
}

func full3(more ...api.Node) api.Node {
	n := box("",
		port("a", class3("be", 8, 1), class3("gold", 4, 0), class3("idle", 1, 1), ref("default", "be"), enum("kind", "core"), rule("r", "gold"), flag("up", 1)),
		port("b", class3("x", 64, 0), ref("default", "x"), enum("kind", "edge"), rule("r", "x"), rule("s", "x")),
		port("c", class3("x", 2, 0), ref("default", "x"), flag("up", 0)),
		ident("system", "s"))
	n.Kids = append(n.Kids, more...)
	return n
}

// full is a valid tree with all that a version has.
func full(version int) api.Node {
	switch version {
	case 1:
		return full1()
	case 2:
		return full2()
	}
	return full3(num("wait", 5))
}

// noVersions is numbers of no version.
var noVersions = []int{0, -1, 4, -2, -3, 5, 6, 7, 9, 127, 255, 256, 257, 258, 259, 1<<16 + 1, 1<<16 + 3, 1<<32 + 1, 1<<32 + 2, 1<<32 + 3, math.MaxInt32, math.MinInt32, math.MaxInt - 1, math.MaxInt, math.MinInt, math.MinInt + 1, math.MinInt + 2, math.MinInt + 3}

// wantTree asks for a tree of a version that may be, in order, and is just the wanted one.
func wantTree(t *testing.T, what string, version int, n, want api.Node) {
	t.Helper()
	if !same(n, want) {
		t.Errorf("%s is\n%s\nwant\n%s", what, short(show(n)), short(show(want)))
	}
	if err, way := valid.Check(version, n); err != api.OK {
		t.Errorf("%s has the error %d at %s in version %d", what, err, showWay(way), version)
	}
	if !same(n, tree.Sorted(n)) {
		t.Errorf("%s is not sorted: %s", what, short(show(n)))
	}
}

// wantZero asks for no tree at all.
func wantZero(t *testing.T, what string, n api.Node) {
	t.Helper()
	if n.Name != "" || n.Key != "" || n.Val != (api.Val{}) || len(n.Kids) > 0 {
		t.Errorf("%s is %s beside its error", what, short(show(n)))
	}
}

func wantUp(t *testing.T, version int, n, want api.Node) {
	t.Helper()
	is, err := migrate.Up(version, n)
	if err != api.OK {
		t.Errorf("Up(%d, %s): error %d", version, short(show(n)), err)
		return
	}
	wantTree(t, "Up", version+1, is, want)
}

func wantDown(t *testing.T, version int, n, want api.Node) {
	t.Helper()
	is, err := migrate.Down(version, n)
	if err != api.OK {
		t.Errorf("Down(%d, %s): error %d", version, short(show(n)), err)
		return
	}
	wantTree(t, "Down", version-1, is, want)
}

func wantTo(t *testing.T, version, to int, n, want api.Node) {
	t.Helper()
	is, err := migrate.To(version, to, n)
	if err != api.OK {
		t.Errorf("To(%d, %d, %s): error %d", version, to, short(show(n)), err)
		return
	}
	wantTree(t, "To", to, is, want)
}

func wantUpError(t *testing.T, version int, n api.Node, want api.Errno) {
	t.Helper()
	is, err := migrate.Up(version, n)
	if err != want {
		t.Errorf("Up(%d, %s): error %d, want %d", version, short(show(n)), err, want)
	}
	wantZero(t, "Up", is)
}

func wantDownError(t *testing.T, version int, n api.Node, want api.Errno) {
	t.Helper()
	is, err := migrate.Down(version, n)
	if err != want {
		t.Errorf("Down(%d, %s): error %d, want %d", version, short(show(n)), err, want)
	}
	wantZero(t, "Down", is)
}

// wantToError asks for an error of To, beside which Loses is false.
func wantToError(t *testing.T, version, to int, n api.Node, want api.Errno) {
	t.Helper()
	is, err := migrate.To(version, to, n)
	if err != want {
		t.Errorf("To(%d, %d, %s): error %d, want %d", version, to, short(show(n)), err, want)
	}
	wantZero(t, "To", is)
	wantLoses(t, version, to, n, false)
}

func wantLoses(t *testing.T, version, to int, n api.Node, want bool) {
	t.Helper()
	if is := migrate.Loses(version, to, n); is != want {
		t.Errorf("Loses(%d, %d, %s) = %v", version, to, short(show(n)), is)
	}
}

// TestExample: a class of version 1 with the limit 4 has the depth 4 in version 3, and is shaped.
func TestExample(t *testing.T) { // P19.1, P19.3
	n := box("", port("a", class1("be", 4), ref("default", "be")))
	wantUp(t, 1, n, box("", port("a", class2("be", 4, 1), ref("default", "be"))))
	wantUp(t, 2, box("", port("a", class2("be", 4, 1), ref("default", "be"))), box("", port("a", class3("be", 4, 1), ref("default", "be"))))
	wantTo(t, 1, 3, n, box("", port("a", class3("be", 4, 1), ref("default", "be"))))
	wantLoses(t, 1, 3, n, false)

	is, err := migrate.To(1, 3, n)
	depth, ok := tree.Get(is, []api.Step{step("port[a]"), step("class[be]"), step("depth")})
	if err != api.OK || !ok || depth.Val != (api.Val{Kind: api.Uint, Num: 4}) {
		t.Errorf("the depth is %v, %v beside %d", depth, ok, err)
	}
	shaped, ok := tree.Get(is, []api.Step{step("port[a]"), step("class[be]"), step("shaped")})
	if !ok || shaped.Val != (api.Val{Kind: api.Bool, Num: 1}) {
		t.Errorf("shaped is %v, %v", shaped, ok)
	}
}

// TestUp1: each class gets a kid more, and nothing else changes.
func TestUp1(t *testing.T) { // P19.1
	wantUp(t, 1, api.Node{}, api.Node{})
	wantUp(t, 1, api.Node{Kids: []api.Node{}}, api.Node{})
	wantUp(t, 1, box("", ident("system", "shaped")), box("", ident("system", "shaped")))
	for _, kids := range [][]api.Node{{ref("default", "x")}, {ref("default", "x"), flag("up", 0)}, {ref("default", "x"), rule("r", "x"), rule("s", "x"), flag("up", 1)}} {
		wantUp(t, 1, box("", port("p", slices.Concat([]api.Node{class1("x", 1)}, kids)...)), box("", port("p", slices.Concat([]api.Node{class2("x", 1, 1)}, kids)...)))
		wantUp(t, 1, box("", port("p", slices.Concat([]api.Node{class1("x", 64), class1("y", 3)}, kids)...), ident("system", "a")),
			box("", port("p", slices.Concat([]api.Node{class2("x", 64, 1), class2("y", 3, 1)}, kids)...), ident("system", "a")))
	}
	wantUp(t, 1, full1(), box("",
		port("a", class2("be", 8, 1), class2("gold", 4, 1), class2("idle", 1, 1), ref("default", "be"), rule("r", "gold"), flag("up", 1)),
		port("b", class2("x", 64, 1), ref("default", "x"), rule("r", "x"), rule("s", "x")),
		port("c", class2("x", 2, 1), ref("default", "x"), flag("up", 0)),
		ident("system", "s")))
	wantUp(t, 1, many1(), many2())
}

// TestUp2: limit has another name in each class, and nothing else changes.
func TestUp2(t *testing.T) { // P19.1
	wantUp(t, 2, api.Node{}, api.Node{})
	wantUp(t, 2, api.Node{Kids: []api.Node{}}, api.Node{})
	wantUp(t, 2, box("", ident("system", "limit")), box("", ident("system", "limit")))
	for _, kids := range [][]api.Node{{ref("default", "x")}, {ref("default", "x"), enum("kind", "lab")}, {ref("default", "x"), enum("kind", "edge"), rule("r", "x"), rule("s", "x"), flag("up", 1)}} {
		for shaped := range uint64(2) {
			wantUp(t, 2, box("", port("p", slices.Concat([]api.Node{class2("x", 1, shaped)}, kids)...)), box("", port("p", slices.Concat([]api.Node{class3("x", 1, shaped)}, kids)...)))
			wantUp(t, 2, box("", port("p", slices.Concat([]api.Node{class2("x", 64, shaped), class2("y", 3, 1-shaped)}, kids)...), ident("system", "a")),
				box("", port("p", slices.Concat([]api.Node{class3("x", 64, shaped), class3("y", 3, 1-shaped)}, kids)...), ident("system", "a")))
		}
	}
	wantUp(t, 2, full2(), full3())
	wantUp(t, 2, many2(), many3())
}

// TestDown3: wait lacks, depth has another name in each class, and nothing else changes.
func TestDown3(t *testing.T) { // P19.2
	for _, wait := range [][]api.Node{nil, {num("wait", 1)}, {num("wait", 5)}, {num("wait", 1000)}} {
		wantDown(t, 3, box("", wait...), api.Node{})
		wantDown(t, 3, box("", slices.Concat([]api.Node{ident("system", "wait")}, wait)...), box("", ident("system", "wait")))
		wantDown(t, 3, full3(wait...), full2())
		n := many3()
		n.Kids = append(n.Kids, wait...)
		wantDown(t, 3, n, many2())
		for shaped := range uint64(2) {
			wantDown(t, 3, box("", slices.Concat([]api.Node{port("p", class3("x", 1, shaped), ref("default", "x"))}, wait)...), box("", port("p", class2("x", 1, shaped), ref("default", "x"))))
			wantDown(t, 3, box("", slices.Concat([]api.Node{port("p", class3("x", 64, shaped), class3("y", 3, 1-shaped), ref("default", "y"), enum("kind", "lab"), rule("r", "x"), flag("up", 1))}, wait)...),
				box("", port("p", class2("x", 64, shaped), class2("y", 3, 1-shaped), ref("default", "y"), enum("kind", "lab"), rule("r", "x"), flag("up", 1))))
		}
	}
	wantDown(t, 3, api.Node{Kids: []api.Node{}}, api.Node{})
}

// TestDown2: kind lacks in each port, shaped in each class, and nothing else changes.
func TestDown2(t *testing.T) { // P19.2
	wantDown(t, 2, api.Node{}, api.Node{})
	wantDown(t, 2, api.Node{Kids: []api.Node{}}, api.Node{})
	wantDown(t, 2, box("", ident("system", "kind")), box("", ident("system", "kind")))
	wantDown(t, 2, full2(), full1())
	wantDown(t, 2, many2(), many1())
	for _, kind := range [][]api.Node{nil, {enum("kind", "edge")}, {enum("kind", "core")}, {enum("kind", "lab")}} {
		for shaped := range uint64(2) {
			wantDown(t, 2, box("", port("p", slices.Concat([]api.Node{class2("x", 1, shaped), ref("default", "x")}, kind)...)), box("", port("p", class1("x", 1), ref("default", "x"))))
			wantDown(t, 2, box("", port("p", slices.Concat([]api.Node{class2("x", 64, shaped), class2("y", 3, 1-shaped), ref("default", "y")}, kind, []api.Node{rule("r", "x"), flag("up", 1)})...), port("q", class2("x", 1, 0), ref("default", "x")), ident("system", "a")),
				box("", port("p", class1("x", 64), class1("y", 3), ref("default", "y"), rule("r", "x"), flag("up", 1)), port("q", class1("x", 1), ref("default", "x")), ident("system", "a")))
		}
	}
}

// TestNoStep: there is nothing behind the last version, nothing ahead of the first, and nothing at all from other numbers, whatever the tree.
func TestNoStep(t *testing.T) { // P19.1, P19.2
	var l []api.Node
	for version := 1; version <= 3; version++ {
		l = append(l, full(version))
		for _, w := range wrong(version) {
			l = append(l, w.n)
		}
	}
	l = append(l, api.Node{}, many1(), many2(), many3(), leaf("", api.Bool, 2, ""), box("x"))
	for _, n := range l {
		wantUpError(t, 3, n, api.Version)
		wantDownError(t, 1, n, api.Version)
		for _, version := range noVersions {
			wantUpError(t, version, n, api.Version)
			wantDownError(t, version, n, api.Version)
		}
	}
}

// fault is a tree, and what valid.Check says of it.
type fault struct {
	n   api.Node
	err api.Errno
}

// wrong is trees that a version has not, of each error and of several at once.
func wrong(version int) []fault {
	class := func(key string) api.Node {
		switch version {
		case 1:
			return class1(key, 8)
		case 2:
			return class2(key, 8, 0)
		}
		return class3(key, 8, 0)
	}
	limit := []string{"", "limit", "limit", "depth"}[version]
	with := func(kids ...api.Node) api.Node { return tree.Sorted(box("", kids...)) }
	in := func(kids ...api.Node) api.Node {
		return with(tree.Sorted(port("p", slices.Concat([]api.Node{class("x"), ref("default", "x")}, kids)...)))
	}
	changed := func(name string, changes ...api.Node) api.Node {
		c := class("x")
		c.Kids = slices.DeleteFunc(c.Kids, func(kid api.Node) bool { return kid.Name == name })
		c.Kids = append(c.Kids, changes...)
		return with(port("p", tree.Sorted(c), ref("default", "x")))
	}
	return slices.Concat(wrongRoots(full(version)), otherTrees(version), []fault{
		{with(num("x", 1)), api.ErrName},
		{with(num("limit", 1)), api.ErrName},
		{in(num("quantum", 1500)), api.ErrName},
		{in(num("wait", 5)), api.ErrName},
		{changed("", num("wait", 5)), api.ErrName},
		{changed("", enum("kind", "lab")), api.ErrName},
		{changed(limit, num("length", 4)), api.ErrName},
		{changed("", num([]string{"", "depth", "depth", "limit"}[version], 4)), api.ErrName},
		{with(ident("system", "S")), api.ErrValue},
		{with(num("system", 1)), api.ErrValue},
		{with(box("system")), api.ErrValue},
		{with(port("P")), api.ErrValue},
		{with(num("port[p]", 1)), api.ErrValue},
		{in(flag("up", 2)), api.ErrValue},
		{in(class("9")), api.ErrValue},
		{changed(limit, num(limit, 0)), api.ErrValue},
		{changed(limit, num(limit, 65)), api.ErrValue},
		{changed(limit, rate(limit, 8)), api.ErrValue},
		{changed(limit, num(limit+"[k]", 8)), api.ErrValue},
		{changed("rate", rate("rate", 1000001)), api.ErrValue},
		{in(class("a"), class("b"), class("c"), class("d"), class("e"), class("f"), class("g"), class("h")), api.ErrMany},
		{with(port("a", class("x"), ref("default", "x")), port("b", class("x"), ref("default", "x")), port("c", class("x"), ref("default", "x")), port("d", class("x"), ref("default", "x")), port("e", class("x"), ref("default", "x"))), api.ErrMany},
		{in(rules(17)...), api.ErrMany},
		{with(port("p")), api.ErrLack},
		{with(port("p", class("x"))), api.ErrLack},
		{changed(limit), api.ErrLack},
		{changed("quantum"), api.ErrLack},
		{in(box("rule[r]", ref("class", "x"), num("low", 1))), api.ErrLack},
		{with(port("p", ref("default", "x"))), api.ErrRef},
		{with(port("p", class("x"), ref("default", "y"))), api.ErrRef},
		{in(rule("r", "y")), api.ErrRef},
		{with(port("p", class("x"), ref("default", "x")), port("q", class("y"), ref("default", "x"))), api.ErrRef},
		// Several at once: the first one counts.
		{in(rule("r", "y"), num("z", 1)), api.ErrName},
		{with(port("p", ref("default", "x")), ident("system", "")), api.ErrValue},
		{with(port("p", class("x"), ref("default", "y")), port("q")), api.ErrLack},
	})
}

// rules is that many rules of the class x.
func rules(count int) []api.Node {
	var l []api.Node
	for i := range count {
		l = append(l, rule("r"+string(rune('a'+i)), "x"))
	}
	return l
}

// wrongRoots is trees made of a valid one that are none to be checked.
func wrongRoots(n api.Node) []fault {
	name, key, val, noKind := n, n, n, n
	name.Name, key.Key, val.Val, noKind.Val = "x", "x", api.Val{Kind: api.Bool, Num: 1}, api.Val{Num: 1}
	twice := n
	twice.Kids = slices.Concat(n.Kids, n.Kids[len(n.Kids)-1:])
	turned := n
	turned.Kids = slices.Clone(n.Kids)
	slices.Reverse(turned.Kids)
	within := n
	within.Kids = slices.Clone(n.Kids)
	within.Kids[0].Kids = slices.Clone(within.Kids[0].Kids)
	slices.Reverse(within.Kids[0].Kids)
	deep := n
	deep.Kids = slices.Clone(n.Kids)
	deep.Kids[0].Kids = slices.Clone(deep.Kids[0].Kids)
	deep.Kids[0].Kids[0].Kids = slices.Clone(deep.Kids[0].Kids[0].Kids)
	slices.Reverse(deep.Kids[0].Kids[0].Kids)
	return []fault{{name, 1}, {key, 1}, {val, 1}, {noKind, 1}, {twice, 1}, {turned, 1}, {within, 1}, {deep, 1}, {api.Node{Name: "x"}, 1}, {api.Node{Key: "x"}, 1}, {leaf("", api.Uint, 1, ""), 1}, {api.Node{Val: api.Val{Text: "a"}}, 1}}
}

// otherTrees is trees that are valid in other versions alone.
func otherTrees(version int) []fault {
	shaped := box("", port("a", class2("be", 1, 1), ref("default", "be")))
	kind := func(c api.Node) api.Node { return box("", port("a", c, ref("default", "be"), enum("kind", "lab"))) }
	wait := box("", num("wait", 5))
	switch version {
	case 1:
		return []fault{{full2(), api.ErrName}, {full3(), api.ErrName}, {many2(), api.ErrName}, {many3(), api.ErrName}, {shaped, api.ErrName}, {kind(class1("be", 1)), api.ErrName}, {wait, api.ErrName}}
	case 2:
		return []fault{{full1(), api.ErrLack}, {full3(), api.ErrName}, {many1(), api.ErrLack}, {many3(), api.ErrName}, {kind(class1("be", 1)), api.ErrLack}, {kind(class3("be", 1, 1)), api.ErrName}, {wait, api.ErrName}}
	}
	return []fault{{full1(), api.ErrName}, {full2(), api.ErrName}, {many1(), api.ErrName}, {many2(), api.ErrName}, {shaped, api.ErrName}, {kind(class2("be", 1, 1)), api.ErrName}, {kind(box("class[be]")), api.ErrLack}}
}

// TestErrors: the error of valid.Check is that of each conversion, to whatever version.
func TestErrors(t *testing.T) { // P19.1, P19.2, P19.3
	for version := 1; version <= 3; version++ {
		seen := map[api.Errno]bool{}
		for i, w := range wrong(version) {
			if err, way := valid.Check(version, w.n); err != w.err {
				t.Fatalf("version %d: tree %d has the error %d at %s, not %d", version, i, err, showWay(way), w.err)
			}
			seen[w.err] = true
			if version < 3 {
				wantUpError(t, version, w.n, w.err)
			}
			if version > 1 {
				wantDownError(t, version, w.n, w.err)
			}
			for to := 1; to <= 3; to++ {
				wantToError(t, version, to, w.n, w.err)
			}
			for _, to := range noVersions {
				wantToError(t, version, to, w.n, w.err)
			}
		}
		for _, err := range []api.Errno{api.ErrArg, api.ErrName, api.ErrValue, api.ErrMany, api.ErrLack, api.ErrRef} {
			if !seen[err] {
				t.Errorf("version %d: no tree has the error %d", version, err)
			}
		}
	}
}

// TestDeep: a tree with as many nodes in one another as there may be is refused, wherever the first fault is.
func TestDeep(t *testing.T) { // P19.1, P19.2, P19.3
	deep := box("class[a]")
	for range 1 << 16 {
		deep = box("class[a]", deep)
	}
	for version := 1; version <= 3; version++ {
		for _, n := range []api.Node{box("", deep), box("", port("a", deep)), deep} {
			want, _ := valid.Check(version, n)
			if want == api.OK {
				t.Fatalf("a tree that deep may be in version %d", version)
			}
			if version < 3 {
				wantUpError(t, version, n, want)
			}
			if version > 1 {
				wantDownError(t, version, n, want)
			}
			wantToError(t, version, 4-version, n, want)
		}
	}
}
