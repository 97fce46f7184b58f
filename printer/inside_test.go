package printer

import (
	"slices"
	"strings"
	"testing"

	"tollbar/api"
	"tollbar/lex"
	"tollbar/spec"
)

// No version has a box below its root, an item that may be without kids, or a key or a value that isn't plain: these tests hand all of them to what is inside.

func node(name, key string, kids ...api.Node) api.Node {
	return api.Node{Name: name, Key: key, Kids: kids}
}

func leaf(name string, kind int, num uint64, text string) api.Node {
	return api.Node{Name: name, Val: api.Val{Kind: kind, Num: num, Text: text}}
}

// other is a Spec whose boxes stand in boxes and in items, and items in boxes, with a leaf of each type in each of them.
func other() spec.Spec {
	leaves := func(kids ...spec.Spec) []spec.Spec {
		return append([]spec.Spec{
			{Name: "u", Kind: spec.Leaf, Type: api.Uint, Max: 1 << 63},
			{Name: "v", Kind: spec.Leaf, Type: api.Rate, Max: 1 << 63},
			{Name: "w", Kind: spec.Leaf, Type: api.Bool},
			{Name: "x", Kind: spec.Leaf, Type: api.Enum, Names: []string{"one", "t w o", "", "a\"\\\n\t\x00\x7f\xffé{};#", "B_.-9"}},
			{Name: "y", Kind: spec.Leaf, Type: api.Ident},
			{Name: "z", Kind: spec.Leaf, Type: api.Ref},
		}, kids...)
	}
	inner := spec.Spec{Name: "inner", Kind: spec.Box, Kids: leaves()}
	item := spec.Spec{Name: "item", Kind: spec.List, Most: 2, Kids: leaves(inner)}
	outer := spec.Spec{Name: "outer", Kind: spec.Box, Kids: leaves(item, inner)}
	return spec.Spec{Kind: spec.Box, Kids: leaves(outer, item)}
}

// printed is the lines of all kids of a node.
func printed(n api.Node) []string {
	var l []string
	for _, kid := range n.Kids {
		l = slices.AppendSeq(l, lines(below(other(), kid), kid))
	}
	return l
}

func wantLines(t *testing.T, n api.Node, want ...string) {
	t.Helper()
	got := printed(n)
	if !slices.Equal(got, want) {
		t.Errorf("%v:\n%s\nnot\n%s", n, strings.Join(got, "\n"), strings.Join(want, "\n"))
	}
	if count := Lines(n); count != 1+len(want) {
		t.Errorf("%v: %d lines, not %d", n, count, 1+len(want))
	}
}

func TestLeaves(t *testing.T) { // P11.1
	for _, x := range []struct {
		n    api.Node
		want string
	}{
		{leaf("u", api.Uint, 0, ""), "u 0;"},
		{leaf("u", api.Uint, 1000, ""), "u 1000;"},
		{leaf("u", api.Uint, 1<<63, ""), "u 9223372036854775808;"},
		{leaf("v", api.Rate, 0, ""), "v 0;"},
		{leaf("v", api.Rate, 1000, ""), "v 1k;"},
		{leaf("v", api.Rate, 2000000, ""), "v 2m;"},
		{leaf("v", api.Rate, 1001, ""), "v 1001;"},
		{leaf("w", api.Bool, 0, ""), "w false;"},
		{leaf("w", api.Bool, 1, ""), "w true;"},
		{leaf("x", api.Enum, 0, "one"), "x one;"},
		{leaf("x", api.Enum, 0, "B_.-9"), "x B_.-9;"},
		{leaf("x", api.Enum, 0, "t w o"), `x "t w o";`},
		{leaf("x", api.Enum, 0, ""), `x "";`},
		{leaf("x", api.Enum, 0, "a\"\\\n\t\x00\x7f\xffé{};#"), `x "a\"\\\n\t\x00\x7f\xffé{};#";`},
		{leaf("y", api.Ident, 0, "core"), "y core;"},
		{leaf("z", api.Ref, 0, "a-1"), "z a-1;"},
	} {
		wantLines(t, node("", "", x.n), x.want)
		wantLines(t, node("", "", node("outer", "", x.n)), `outer "" {`, "  "+x.want, "}")
	}
}

func TestKeys(t *testing.T) { // P11.1
	for _, x := range []struct{ key, want string }{
		{"a", "a"},
		{"A_.-9", "A_.-9"},
		{"", `""`},
		{"a b", `"a b"`},
		{" ", `" "`},
		{`"`, `"\""`},
		{`\`, `"\\"`},
		{"\n", `"\n"`},
		{"\t", `"\t"`},
		{"\r\x00\x1f\x7f", `"\x0d\x00\x1f\x7f"`},
		{"é\xff\ufffd", "\"é\\xff\ufffd\""},
		{"{", `"{"`},
		{"a;", `"a;"`},
		{"#a", `"#a"`},
	} {
		wantLines(t, node("", "", node("item", x.key)), "item "+x.want+" {", "}")
		wantLines(t, node("", "", node("outer", "", node("item", x.key, node("inner", x.key)))),
			`outer "" {`, "  item "+x.want+" {", "    inner "+x.want+" {", "    }", "  }", "}")
	}
}

func TestToken(t *testing.T) { // P11.1
	all := []string{"", "a", "aZ09_-.", "a b", "\"", "\\", "é", "\xff", "\u2028", strings.Repeat("a", 3000), strings.Repeat(" ", 3000)}
	for b := range 256 {
		all = append(all, string([]byte{byte(b)}), string([]byte{'a', byte(b)}), string([]byte{byte(b), 'a'}))
	}
	for _, s := range all {
		want := lex.Quote(s)
		if lex.Plain(s) {
			want = s
		}
		got := token(s)
		if got != want {
			t.Errorf("%q: %s, not %s", s, got, want)
		}
		if l, err, _ := lex.All(got); err != api.OK || len(l) != 2 || l[0].Text != s {
			t.Errorf("%q is read as %v, %d", s, l, err)
		}
	}
}

func TestBoxes(t *testing.T) { // P11.1, P11.2
	wantLines(t, node("", ""))
	wantLines(t, node("", "", node("outer", "")), `outer "" {`, "}")
	wantLines(t, node("", "", node("item", "a"), node("item", "b")), "item a {", "}", "item b {", "}")
	wantLines(t, node("", "",
		node("item", "a", node("inner", "", leaf("u", api.Uint, 1, ""), leaf("w", api.Bool, 1, "")), leaf("y", api.Ident, 0, "s")),
		node("outer", "", node("inner", ""), node("item", "b", node("inner", "", leaf("z", api.Ref, 0, "r")), leaf("x", api.Enum, 0, "t w o")), node("item", "c")),
		leaf("v", api.Rate, 3000, "")),
		"item a {",
		`  inner "" {`,
		"    u 1;",
		"    w true;",
		"  }",
		"  y s;",
		"}",
		`outer "" {`,
		`  inner "" {`,
		"  }",
		"  item b {",
		`    inner "" {`,
		"      z r;",
		"    }",
		`    x "t w o";`,
		"  }",
		"  item c {",
		"  }",
		"}",
		"v 3k;")
	// The order of the kids is theirs, not that of the schema or of names.
	wantLines(t, node("", "", leaf("w", api.Bool, 0, ""), node("outer", "", leaf("z", api.Ref, 0, "r"), node("inner", "")), leaf("u", api.Uint, 7, "")),
		"w false;", `outer "" {`, "  z r;", `  inner "" {`, "  }", "}", "u 7;")
}

// TestNames has nodes that differ in their Names alone, which no valid trees of one version do.
func TestNames(t *testing.T) { // P11.3
	wantLines(t, node("", "", node("item", "a", leaf("y", api.Ident, 0, "s"))), "item a {", "  y s;", "}")
	wantLines(t, node("", "", node("outer", "a", leaf("y", api.Ident, 0, "s"))), "outer a {", "  y s;", "}")
	s := spec.Spec{Kind: spec.Box, Kids: []spec.Spec{
		{Name: "p", Kind: spec.Leaf, Type: api.Ident},
		{Name: "q", Kind: spec.Leaf, Type: api.Ident},
	}}
	for _, name := range []string{"p", "q"} {
		n := leaf(name, api.Ident, 0, "same")
		if l := slices.Collect(lines(below(s, n), n)); !slices.Equal(l, []string{name + " same;"}) {
			t.Error(name, l)
		}
	}
}

// TestStops: lines that aren't asked for don't come, wherever one stops.
func TestStops(t *testing.T) { // P11.1
	n := node("outer", "",
		leaf("u", api.Uint, 1, ""),
		node("item", "a", node("inner", "", leaf("w", api.Bool, 1, "")), leaf("y", api.Ident, 0, "s")),
		node("inner", ""),
		leaf("z", api.Ref, 0, "r"))
	all := slices.Collect(lines(below(other(), n), n))
	if len(all) != 12 {
		t.Fatalf("%d lines: %v", len(all), all)
	}
	for count := range len(all) + 1 {
		var got []string
		for line := range lines(below(other(), n), n) {
			got = append(got, line)
			if len(got) == count+1 {
				break
			}
		}
		if !slices.Equal(got, all[:min(count+1, len(all))]) {
			t.Errorf("%d: %v", count, got)
		}
	}
	// The same lines come again.
	some := lines(below(other(), n), n)
	if !slices.Equal(slices.Collect(some), all) || !slices.Equal(slices.Collect(some), all) {
		t.Error("the lines are other ones the next time")
	}
}
