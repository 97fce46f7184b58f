package parser

import (
	"slices"
	"strconv"
	"strings"
	"testing"

	"tollbar/api"
	"tollbar/lex"
	"tollbar/spec"
	"tollbar/tree"
)

// No version has a box below its root: these tests hand one that stands in boxes, and in items, to what is inside.

// other is a Spec whose boxes stand in boxes and in items, and items in boxes, with leaves in each of them.
func other() spec.Spec {
	leaves := func(kids ...spec.Spec) []spec.Spec {
		return append([]spec.Spec{
			{Name: "u", Kind: spec.Leaf, Type: api.Uint, Max: 9},
			{Name: "e", Kind: spec.Leaf, Type: api.Enum, Names: []string{"one", "t w o", ""}},
		}, kids...)
	}
	inner := spec.Spec{Name: "inner", Kind: spec.Box, Kids: leaves()}
	item := spec.Spec{Name: "item", Kind: spec.List, Most: 1, Kids: leaves(inner)}
	outer := spec.Spec{Name: "outer", Kind: spec.Box, Must: true, Kids: leaves(item, inner)}
	return spec.Spec{Kind: spec.Box, Kids: leaves(outer, item, inner)}
}

func node(name, key string, kids ...api.Node) api.Node {
	return api.Node{Name: name, Key: key, Kids: kids}
}

func u(num uint64) api.Node { return api.Node{Name: "u", Val: api.Val{Kind: api.Uint, Num: num}} }

func e(text string) api.Node { return api.Node{Name: "e", Val: api.Val{Kind: api.Enum, Text: text}} }

// read is the parts of a text, up to its end, as other has them; else the problem.
func read(t *testing.T, s string) (kids []api.Node, left int, found problem) {
	t.Helper()
	l, err, at := lex.All(s)
	if err != api.OK {
		t.Fatalf("%q: %d at %v", s, err, at)
	}
	defer func() {
		if p := recover(); p != nil {
			found = p.(problem)
		}
	}()
	in := reader{left: l}
	kids = in.parts(other(), lex.End)
	return kids, len(in.left), problem{}
}

func show(n api.Node) string {
	s := n.Name + "[" + n.Key + "]" + strconv.Itoa(n.Val.Kind) + ":" + strconv.FormatUint(n.Val.Num, 10) + ":" + strconv.Quote(n.Val.Text) + "("
	for _, kid := range n.Kids {
		s += show(kid)
	}
	return s + ")"
}

// wantParts has a text be parts, in the order in which they stand there.
func wantParts(t *testing.T, s string, want ...api.Node) {
	t.Helper()
	kids, left, found := read(t, s)
	if !slices.EqualFunc(kids, want, tree.Same) || left != 0 || found != (problem{}) {
		t.Errorf("%q is %s, not %s; %d tokens are left, %v", s, show(node("", "", kids...)), show(node("", "", want...)), left, found)
	}
}

// wantProblem has a text be refused at the mark in it.
func wantProblem(t *testing.T, err api.Errno, s string) {
	t.Helper()
	ahead, behind, _ := strings.Cut(s, "^")
	want := problem{err, api.Pos{Line: 1, Col: 1 + len(ahead)}}
	if kids, _, found := read(t, ahead+behind); len(kids) != 0 || found != want {
		t.Errorf("%q is %s, %v, not %v", s, show(node("", "", kids...)), found, want)
	}
}

func TestBoxes(t *testing.T) { // P12.2
	wantParts(t, "")
	wantParts(t, "inner { }", node("inner", ""))
	wantParts(t, "inner { u 1; e one; }", node("inner", "", u(1), e("one")))
	wantParts(t, "outer { }", node("outer", ""))
	wantParts(t, "outer { inner { u 2; } u 3; } inner { u 4; } u 5;", node("outer", "", node("inner", "", u(2)), u(3)), node("inner", "", u(4)), u(5))
	wantParts(t, "item a { inner { u 1; } } outer { item a { inner { } } item b { inner { e \"\"; } } inner { } } inner { }",
		node("item", "a", node("inner", "", u(1))),
		node("outer", "", node("item", "a", node("inner", "")), node("item", "b", node("inner", "", e(""))), node("inner", "")),
		node("inner", ""))
	// Strings that no word can be.
	wantParts(t, `e "t w o"; inner { e ""; }`, e("t w o"), node("inner", "", e("")))
	// Whether a tree may be, with what it must have and how many items, is not asked here.
	wantParts(t, "item b { } item a { } u 1;", node("item", "b"), node("item", "a"), u(1))
}

func TestNoBoxes(t *testing.T) { // P12.1
	for _, ahead := range []string{"", "outer {", "item a {", "outer { item a {"} {
		for _, s := range []string{
			"inner^;", "inner ^; u 1;", "inner ^}", "inner ^a {", "inner ^\"\" {", "inner ^\"{\"", "inner ^inner {",
			"inner {^", "inner { u 1;^", "inner { ^;", "inner { ^{", "inner { ^\"u\" 1;", "inner { } ^;", "inner { } ^{", "inner { } ^\"x\"",
			"inner { u ^;", "inner { u 1 ^}", "inner^",
		} {
			wantProblem(t, api.ErrSyntax, ahead+s)
		}
		for _, s := range []string{"inner { ^x", "inner { ^inner { }", "inner { ^outer { }", "inner { ^item a { }", "inner { u 1; ^U 1;", "inner { } ^x", "inner { } ^Inner { }"} {
			wantProblem(t, api.ErrName, ahead+s)
		}
		for _, s := range []string{"inner { u ^10;", "inner { e ^two", "inner { e ^\"t  w o\" }"} {
			wantProblem(t, api.ErrValue, ahead+s)
		}
		// A box that the node has already is one too many at its name, whatever is behind that.
		for _, s := range []string{
			"inner { } ^inner { }", "inner { } ^inner", "inner { } ^inner;", "inner { } ^inner a { }", "inner { u 1; } u 1; ^inner { x y; }",
			"inner { u 1; ^u 1; }", "inner { u 1; e one; ^u x; }", "u 1; inner { } ^u 2;", "inner { } u 1; ^inner { }",
		} {
			wantProblem(t, api.ErrTwice, ahead+s)
		}
	}
	wantProblem(t, api.ErrTwice, "outer { } inner { } ^outer { }")
	wantProblem(t, api.ErrTwice, "outer { item a { } inner { } item ^a { }")
	wantProblem(t, api.ErrSyntax, "outer { } ^}")
	wantProblem(t, api.ErrSyntax, "outer { inner { } } ^}")
	wantProblem(t, api.ErrName, "outer { ^outer { }")
	wantProblem(t, api.ErrValue, "outer { item ^A { }")
}
