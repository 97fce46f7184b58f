package printer_test

import (
	"math"
	"math/rand"
	"slices"
	"strconv"
	"strings"
	"testing"

	"tollbar/api"
	"tollbar/lex"
	"tollbar/printer"
	"tollbar/spec"
	"tollbar/tree"
	"tollbar/valid"
	"tollbar/value"
)

// The calls of the chapter, with just these signatures.
var (
	_ func(int, api.Node) string = printer.Text
	_ func(api.Node) int         = printer.Lines
)

// step is the step of a short text: a name, or a name and a key in brackets.
func step(s string) api.Step {
	name, key, _ := strings.Cut(strings.TrimSuffix(s, "]"), "[")
	return api.Step{Name: name, Key: key}
}

// box is a node that is no leaf; the others are leaves.
func box(s string, kids ...api.Node) api.Node {
	return api.Node{Name: step(s).Name, Key: step(s).Key, Kids: kids}
}

func with(n api.Node, kind int, num uint64, text string) api.Node {
	n.Val = api.Val{Kind: kind, Num: num, Text: text}
	return n
}

func num(s string, n uint64) api.Node  { return with(box(s), api.Uint, n, "") }
func rate(s string, n uint64) api.Node { return with(box(s), api.Rate, n, "") }
func flag(s string, n uint64) api.Node { return with(box(s), api.Bool, n, "") }
func enum(s, text string) api.Node     { return with(box(s), api.Enum, 0, text) }
func ident(s, text string) api.Node    { return with(box(s), api.Ident, 0, text) }
func ref(s, text string) api.Node      { return with(box(s), api.Ref, 0, text) }

// limit is what the leaf of a class that bounds its queue is named.
func limit(version int) string {
	if version == 3 {
		return "depth"
	}
	return "limit"
}

func class(version int, key string) api.Node {
	n := box("class["+key+"]", num("burst", 3000), num(limit(version), 8), num("quantum", 1500), rate("rate", 1000))
	if version > 1 {
		n.Kids = append(n.Kids, flag("shaped", 1))
	}
	return tree.Sorted(n)
}

func rule(key, class string) api.Node {
	return box("rule["+key+"]", ref("class", class), num("high", 19), num("low", 10))
}

// full is a valid tree with everything that a version has, made anew for each call.
func full(version int) api.Node {
	port := box("port[a]", class(version, "be"), class(version, "gold"), class(version, "idle"), ref("default", "be"), rule("r", "gold"), rule("s", "be"), flag("up", 1))
	if version > 1 {
		port.Kids = append(port.Kids, enum("kind", "core"))
	}
	n := box("", port, box("port[b]", class(version, "x"), ref("default", "x")), ident("system", "s"))
	if version > 2 {
		n.Kids = append(n.Kids, num("wait", 1000))
	}
	return tree.Sorted(n)
}

// crowd is a valid tree with as many ports, classes and rules as a version lets be.
func crowd(version int) api.Node {
	var n api.Node
	for p := range api.MaxPorts {
		port := box("port[p"+strconv.Itoa(p)+"]", ref("default", "c0"))
		for c := range api.MaxClasses {
			port.Kids = append(port.Kids, class(version, "c"+strconv.Itoa(c)))
		}
		for r := range api.MaxRules {
			port.Kids = append(port.Kids, rule("r"+strconv.Itoa(r), "c"+strconv.Itoa(r%api.MaxClasses)))
		}
		n.Kids = append(n.Kids, port)
	}
	return tree.Sorted(n)
}

// versions calls for each version that there is.
func versions(call func(version int)) {
	for version := 1; version <= 3; version++ {
		call(version)
	}
}

// find is the node at a way in a tree, where it stands: steps with a / between two.
func find(n *api.Node, at string) *api.Node {
	if at == "" {
		return n
	}
	for part := range strings.SplitSeq(at, "/") {
		i := slices.IndexFunc(n.Kids, func(kid api.Node) bool { return api.Step{Name: kid.Name, Key: kid.Key} == step(part) })
		n = &n.Kids[i]
	}
	return n
}

// change is full after changes, whose kids are left as they then stand.
func change(version int, changes ...func(n *api.Node)) api.Node {
	n := full(version)
	for _, c := range changes {
		c(&n)
	}
	return n
}

// put changes the node at a way, add lays kids into it, behind the others, and cut takes those of a name away.
func put(at string, call func(n *api.Node)) func(*api.Node) {
	return func(n *api.Node) { call(find(n, at)) }
}

func val(at string, v api.Val) func(*api.Node) {
	return put(at, func(n *api.Node) { n.Val = v })
}

func add(at string, kids ...api.Node) func(*api.Node) {
	return put(at, func(n *api.Node) { n.Kids = append(n.Kids, kids...) })
}

func cut(at, name string) func(*api.Node) {
	return put(at, func(n *api.Node) {
		n.Kids = slices.DeleteFunc(n.Kids, func(kid api.Node) bool { return kid.Name == name })
	})
}

// spots is all nodes of a tree, where they stand.
func spots(n *api.Node) []*api.Node {
	l := []*api.Node{n}
	for i := range n.Kids {
		l = append(l, spots(&n.Kids[i])...)
	}
	return l
}

// show is a tree as text, for reports.
func show(n api.Node) string {
	s := strconv.Quote(n.Name) + "[" + strconv.Quote(n.Key) + "]"
	if n.Val != (api.Val{}) {
		s += "=" + strconv.Itoa(n.Val.Kind) + ":" + strconv.FormatUint(n.Val.Num, 10) + ":" + strconv.Quote(n.Val.Text)
	}
	var l []string
	for _, kid := range n.Kids {
		l = append(l, show(kid))
	}
	return s + "{" + strings.Join(l, " ") + "}"
}

func clipped(s string) string {
	if len(s) > 3000 {
		return s[:3000] + ".."
	}
	return s
}

// token is a string as a token.
func token(s string) string {
	if lex.Plain(s) {
		return s
	}
	return lex.Quote(s)
}

// linesOf is the lines of a node below the root, as the chapter has them.
func linesOf(s spec.Spec, n api.Node, ahead string) string {
	if n.Val.Kind != api.None {
		return ahead + n.Name + " " + token(value.Text(s, n.Val)) + ";\n"
	}
	out := ahead + n.Name + " " + token(n.Key) + " {\n"
	for _, kid := range n.Kids {
		out += linesOf(s.Kids[spec.Find(s, kid.Name)], kid, ahead+"  ")
	}
	return out + ahead + "}\n"
}

// model is what Text answers.
func model(version int, n api.Node) string {
	if !valid.May(version, n) {
		return ""
	}
	root, _ := spec.Root(version)
	out := "version " + strconv.Itoa(version) + ";\n"
	for _, kid := range n.Kids {
		out += linesOf(root.Kids[spec.Find(root, kid.Name)], kid, "")
	}
	return out
}

func wantText(t *testing.T, version int, n api.Node, want string) {
	t.Helper()
	if got := printer.Text(version, n); got != want {
		t.Errorf("Text(%d, %s) = %q, not %q", version, clipped(show(n)), clipped(got), clipped(want))
	}
}

// wantValid is a text as wantText has it, of a tree that must be valid, and its lines.
func wantValid(t *testing.T, version int, n api.Node, want string) {
	t.Helper()
	if err, w := valid.Check(version, n); err != api.OK {
		t.Fatalf("%s: %d at %v", clipped(show(n)), err, w)
	}
	wantText(t, version, n, want)
	wantLines(t, n, strings.Count(want, "\n"))
}

func wantLines(t *testing.T, n api.Node, want int) {
	t.Helper()
	if got := printer.Lines(n); got != want {
		t.Errorf("Lines(%s) = %d, not %d", clipped(show(n)), got, want)
	}
}

func TestExamples(t *testing.T) { // P11.1, P11.2
	wantValid(t, 3, box("", ident("system", "core")), "version 3;\nsystem core;\n")
	wantValid(t, 3, box("", box("port[a]",
		box("class[be]", num("burst", 3000), num("depth", 8), num("quantum", 1500), rate("rate", 1000), flag("shaped", 1)),
		box("class[gold]", num("burst", 3000), num("depth", 4), num("quantum", 3000), rate("rate", 0), flag("shaped", 0)),
		ref("default", "be"),
		box("rule[r]", ref("class", "gold"), num("high", 19), num("low", 10)))), `version 3;
port a {
  class be {
    burst 3000;
    depth 8;
    quantum 1500;
    rate 1k;
    shaped true;
  }
  class gold {
    burst 3000;
    depth 4;
    quantum 3000;
    rate 0;
    shaped false;
  }
  default be;
  rule r {
    class gold;
    high 19;
    low 10;
  }
}
`)
}

func TestNoTree(t *testing.T) { // P11.1
	outOf := func(at string, kind int, num uint64, text string) func(*api.Node) {
		return val(at, api.Val{Kind: kind, Num: num, Text: text})
	}
	versions(func(version int) {
		depth := "port[a]/class[be]/" + limit(version)
		var many []api.Node
		for _, key := range []string{"c", "d", "e"} {
			many = append(many, box("port["+key+"]", class(version, "x"), ref("default", "x")))
		}
		for i, changes := range [][]func(*api.Node){
			// A root that has more than kids.
			{put("", func(n *api.Node) { n.Name = "x" })},
			{put("", func(n *api.Node) { n.Name = "version" })},
			{put("", func(n *api.Node) { n.Key = "x" })},
			{outOf("", api.Ident, 0, "x")},
			{outOf("", api.None, 1, "")},
			{outOf("", api.None, 0, "x")},
			{outOf("", -1, 0, "")},
			// Kids out of order, or there twice.
			{put("", func(n *api.Node) { slices.Reverse(n.Kids) })},
			{put("port[a]", func(n *api.Node) { slices.Reverse(n.Kids) })},
			{put("port[a]/class[gold]", func(n *api.Node) { slices.Reverse(n.Kids) })},
			{put("port[a]/rule[s]", func(n *api.Node) { slices.Reverse(n.Kids) })},
			{add("", box("port[b]", class(version, "x"), ref("default", "x")))},
			{put("port[b]", func(n *api.Node) { n.Kids = append(n.Kids[:1:1], n.Kids...) })},
			// What must be there isn't.
			{cut("port[a]", "default")},
			{cut("port[b]/class[x]", "rate")},
			{cut("port[a]/class[idle]", "quantum")},
			{cut("port[a]/class[idle]", limit(version))},
			{cut("port[a]/rule[r]", "low")},
			{cut("port[a]/rule[s]", "class")},
			{put("port[a]/class[idle]", func(n *api.Node) { n.Kids = nil })},
			{put("port[a]/rule[s]", func(n *api.Node) { n.Kids = nil })},
			{put("port[b]", func(n *api.Node) { n.Kids = nil })},
			// A value that may not be.
			{outOf("port[b]/class[x]/quantum", api.Uint, 1499, "")},
			{outOf("port[b]/class[x]/quantum", api.Uint, 100001, "")},
			{outOf("port[b]/class[x]/burst", api.Uint, 1499, "")},
			{outOf("port[b]/class[x]/burst", api.Uint, 1000001, "")},
			{outOf("port[b]/class[x]/rate", api.Rate, 1000001, "")},
			{outOf("port[b]/class[x]/rate", api.Uint, 1000, "")},
			{outOf(depth, api.Uint, 0, "")},
			{outOf(depth, api.Uint, 65, "")},
			{outOf("port[a]/rule[r]/low", api.Uint, 65536, "")},
			{outOf("port[a]/rule[r]/low", api.Uint, 1, "x")},
			{outOf("port[a]/up", api.Bool, 2, "")},
			{outOf("port[a]/up", api.None, 0, "")},
			{outOf("port[a]/up", 7, 1, "")},
			{outOf("port[a]/up", -3, 1, "")},
			{outOf("system", api.Ident, 0, "S")},
			{outOf("system", api.Ident, 0, "")},
			{outOf("system", api.Ident, 0, "two words")},
			{outOf("system", api.Ident, 0, "aaaaaaaaaaaaa")},
			{outOf("port[b]", api.Bool, 1, "")},
			// A key that may not be, or where there may be none.
			{put("port[b]", func(n *api.Node) { n.Key = "" })},
			{put("port[b]", func(n *api.Node) { n.Key = "b b" })},
			{put("port[b]", func(n *api.Node) { n.Key = "1" })},
			{put("system", func(n *api.Node) { n.Key = "s" })},
			// A name that there isn't.
			{put("system", func(n *api.Node) { n.Name = "systems" })},
			{add("", box("x"))},
			{put("system", func(n *api.Node) { n.Kids = []api.Node{num("x", 1)} })},
			// A class that there isn't.
			{outOf("port[a]/default", api.Ref, 0, "x")},
			{outOf("port[b]/default", api.Ref, 0, "be")},
			{outOf("port[a]/rule[s]/class", api.Ref, 0, "none")},
			{cut("port[b]", "class")},
			// Too many.
			{add("", many...), func(n *api.Node) { *n = tree.Sorted(*n) }},
		} {
			n := change(version, changes...)
			if valid.May(version, n) {
				t.Fatalf("version %d, %d: %s may be", version, i, show(n))
			}
			wantText(t, version, n, "")
		}
		if version > 1 {
			wantText(t, version, change(version, outOf("port[a]/kind", api.Enum, 0, "none")), "")
			wantText(t, version, change(version, outOf("port[a]/kind", api.Enum, 0, "")), "")
			wantText(t, version, change(version, cut("port[a]/class[be]", "shaped")), "")
		}
	})
}

func TestNoVersion(t *testing.T) { // P11.1
	for _, version := range []int{math.MinInt, math.MinInt32, -3, -2, -1, 0, 4, 5, 10, 255, 257, 1<<16 + 1, 1<<32 + 1, 1<<32 + 3, math.MaxInt} {
		for _, n := range []api.Node{{}, {Kids: []api.Node{}}, full(1), full(2), full(3), box("", ident("system", "s")), box("x")} {
			wantText(t, version, n, "")
		}
	}
	// What is valid in another version alone.
	for _, x := range [][2]int{{1, 2}, {1, 3}, {2, 1}, {2, 3}, {3, 1}, {3, 2}} {
		wantText(t, x[1], full(x[0]), "")
		wantText(t, x[1], crowd(x[0]), "")
	}
	wantText(t, 1, box("", num("wait", 5)), "")
	wantText(t, 2, box("", num("wait", 5)), "")
}

func TestEmptyRoot(t *testing.T) { // P11.1, P11.2
	for version, want := range []string{"", "version 1;\n", "version 2;\n", "version 3;\n", ""} {
		for _, n := range []api.Node{{}, {Kids: []api.Node{}}, {Kids: make([]api.Node, 0, 4)}} {
			wantText(t, version, n, want)
			wantLines(t, n, 1)
		}
	}
}

func TestRoot(t *testing.T) { // P11.1, P11.2
	versions(func(version int) {
		wantValid(t, version, box("", ident("system", "s")), "version "+strconv.Itoa(version)+";\nsystem s;\n")
	})
	wantValid(t, 3, box("", num("wait", 5)), "version 3;\nwait 5;\n")
	wantValid(t, 3, box("", ident("system", "core-2"), num("wait", 1000)), "version 3;\nsystem core-2;\nwait 1000;\n")
}

// The text of full in version 3; that of the others is told from it.
const fullText = `version 3;
port a {
  class be {
    burst 3000;
    depth 8;
    quantum 1500;
    rate 1k;
    shaped true;
  }
  class gold {
    burst 3000;
    depth 8;
    quantum 1500;
    rate 1k;
    shaped true;
  }
  class idle {
    burst 3000;
    depth 8;
    quantum 1500;
    rate 1k;
    shaped true;
  }
  default be;
  kind core;
  rule r {
    class gold;
    high 19;
    low 10;
  }
  rule s {
    class be;
    high 19;
    low 10;
  }
  up true;
}
port b {
  class x {
    burst 3000;
    depth 8;
    quantum 1500;
    rate 1k;
    shaped true;
  }
  default x;
}
system s;
wait 1000;
`

func TestFull(t *testing.T) { // P11.1, P11.2
	wantValid(t, 3, full(3), fullText)
	text := strings.NewReplacer("version 3", "version 2", "depth", "limit", "wait 1000;\n", "").Replace(fullText)
	wantValid(t, 2, full(2), text)
	text = strings.NewReplacer("version 2", "version 1", "    shaped true;\n", "", "  kind core;\n", "").Replace(text)
	wantValid(t, 1, full(1), text)
	wantLines(t, full(3), 49)
	wantLines(t, full(2), 48)
	wantLines(t, full(1), 43)
}

func TestCrowd(t *testing.T) { // P11.1, P11.2
	versions(func(version int) {
		wantValid(t, version, crowd(version), model(version, crowd(version)))
	})
	wantLines(t, crowd(1), 1+4*(2+8*6+1+16*5))
	wantLines(t, crowd(2), 1+4*(2+8*7+1+16*5))
	wantLines(t, crowd(3), 1+4*(2+8*7+1+16*5))
}

// TestOrder has the kids in the tree's order, which is that of their names, and of their keys as bytes.
func TestOrder(t *testing.T) { // P11.1
	keys := []string{"a", "a-", "a--1", "a1", "a10", "a2", "aa"}
	versions(func(version int) {
		var kids []api.Node
		var want strings.Builder
		for _, key := range keys {
			kids = append(kids, class(version, key))
		}
		kids = append(kids, ref("default", "a1"))
		for _, key := range keys {
			kids = append(kids, rule(key, key))
		}
		n := box("", box("port[q]", kids...))
		text := printer.Text(version, n)
		for _, key := range keys {
			want.WriteString("  class " + key + " {\n")
		}
		want.WriteString("  default a1;\n")
		for _, key := range keys {
			want.WriteString("  rule " + key + " {\n")
		}
		var got strings.Builder
		for line := range strings.Lines(text) {
			if strings.HasPrefix(line, "  ") && !strings.HasPrefix(line, "    ") && line != "  }\n" {
				got.WriteString(line)
			}
		}
		if got.String() != want.String() {
			t.Errorf("version %d: %s not %s", version, got.String(), want.String())
		}
		ports := box("", box("port[a]", class(version, "x"), ref("default", "x")), box("port[a-a]", class(version, "x"), ref("default", "x")), box("port[a0]", class(version, "x"), ref("default", "x")), box("port[b]", class(version, "x"), ref("default", "x")))
		text = printer.Text(version, ports)
		at := -1
		for _, key := range []string{"a", "a-a", "a0", "b"} {
			next := strings.Index(text, "\nport "+key+" {\n")
			if next <= at {
				t.Errorf("version %d: %s stands at %d, behind %d", version, key, next, at)
			}
			at = next
		}
	})
}

func TestValues(t *testing.T) { // P11.1
	whole := func(n uint64) api.Val { return api.Val{Kind: api.Uint, Num: n} }
	rate := func(n uint64) api.Val { return api.Val{Kind: api.Rate, Num: n} }
	flag := func(n uint64) api.Val { return api.Val{Kind: api.Bool, Num: n} }
	text := func(kind int, s string) api.Val { return api.Val{Kind: kind, Text: s} }
	for _, x := range []struct {
		at   string
		v    api.Val
		from int
		want string
	}{
		{"port[a]/class[be]/quantum", whole(1500), 1, "    quantum 1500;"},
		{"port[a]/class[be]/quantum", whole(2000), 1, "    quantum 2000;"},
		{"port[a]/class[be]/quantum", whole(100000), 1, "    quantum 100000;"},
		{"port[a]/class[be]/burst", whole(1000000), 1, "    burst 1000000;"},
		{"port[a]/rule[r]/low", whole(0), 1, "    low 0;"},
		{"port[a]/rule[r]/high", whole(65535), 1, "    high 65535;"},
		{"port[a]/rule[r]/high", whole(1000), 1, "    high 1000;"},
		{"wait", whole(1), 3, "wait 1;"},
		{"port[a]/class[be]/rate", rate(0), 1, "    rate 0;"},
		{"port[a]/class[be]/rate", rate(1), 1, "    rate 1;"},
		{"port[a]/class[be]/rate", rate(999), 1, "    rate 999;"},
		{"port[a]/class[be]/rate", rate(1000), 1, "    rate 1k;"},
		{"port[a]/class[be]/rate", rate(1001), 1, "    rate 1001;"},
		{"port[a]/class[be]/rate", rate(1500), 1, "    rate 1500;"},
		{"port[a]/class[be]/rate", rate(20000), 1, "    rate 20k;"},
		{"port[a]/class[be]/rate", rate(999999), 1, "    rate 999999;"},
		{"port[a]/class[be]/rate", rate(1000000), 1, "    rate 1m;"},
		{"port[a]/up", flag(0), 1, "  up false;"},
		{"port[a]/up", flag(1), 1, "  up true;"},
		{"port[a]/class[be]/shaped", flag(0), 2, "    shaped false;"},
		{"port[a]/class[be]/shaped", flag(1), 2, "    shaped true;"},
		{"port[a]/kind", text(api.Enum, "edge"), 2, "  kind edge;"},
		{"port[a]/kind", text(api.Enum, "core"), 2, "  kind core;"},
		{"port[a]/kind", text(api.Enum, "lab"), 2, "  kind lab;"},
		{"system", text(api.Ident, "a"), 1, "system a;"},
		{"system", text(api.Ident, "a-b-9"), 1, "system a-b-9;"},
		{"system", text(api.Ident, "aaaaaaaaaaaa"), 1, "system aaaaaaaaaaaa;"},
		{"system", text(api.Ident, "version"), 1, "system version;"},
		{"system", text(api.Ident, "true"), 1, "system true;"},
		{"port[a]/default", text(api.Ref, "gold"), 1, "  default gold;"},
		{"port[a]/rule[r]/class", text(api.Ref, "idle"), 1, "    class idle;"},
	} {
		for version := x.from; version <= 3; version++ {
			n := change(version, val(x.at, x.v))
			got := printer.Text(version, n)
			wantValid(t, version, n, model(version, n))
			// Just the line of that leaf is another one.
			before := strings.Split(printer.Text(version, full(version)), "\n")
			after := strings.Split(got, "\n")
			place := lineOf(full(version), x.at)
			if len(before) != len(after) || after[place] != x.want {
				t.Fatalf("version %d: %s", version, got)
			}
			before[place] = x.want
			if !slices.Equal(before, after) {
				t.Errorf("version %d: %s", version, got)
			}
		}
	}
}

// lineOf is which line of a tree's text the leaf at a way is, counted from 0 on.
func lineOf(n api.Node, at string) int {
	line := 1
	for part := range strings.SplitSeq(at, "/") {
		for _, kid := range n.Kids {
			if (api.Step{Name: kid.Name, Key: kid.Key}) == step(part) {
				n = kid
				break
			}
			line += count(box("", kid)) - 1
		}
		if n.Val.Kind == api.None {
			line++
		}
	}
	return line
}

func TestKeys(t *testing.T) { // P11.1
	versions(func(version int) {
		for _, key := range []string{"a", "z9", "a-", "a--b", "port", "class", "true", "version", "aaaaaaaaaaaa", "k-0123456789"} {
			n := box("", box("port["+key+"]", class(version, key), ref("default", key), rule(key, key)))
			text := printer.Text(version, n)
			wantValid(t, version, n, model(version, n))
			for _, line := range []string{"port " + key + " {", "  class " + key + " {", "  default " + key + ";", "  rule " + key + " {", "    class " + key + ";"} {
				if !strings.Contains(text, "\n"+line+"\n") {
					t.Errorf("version %d: no line %q in %s", version, line, text)
				}
			}
		}
	})
}

// wantLayout holds a text against what is said of lines: how far in they stand, and how they end.
func wantLayout(t *testing.T, text string) {
	t.Helper()
	if !strings.HasSuffix(text, "\n") {
		t.Fatalf("no newline ends %q", clipped(text))
	}
	var open []int
	for i, line := range strings.Split(strings.TrimSuffix(text, "\n"), "\n") {
		in := len(line) - len(strings.TrimLeft(line, " "))
		if line == "" || line != strings.TrimRight(line, " \t\r") || strings.ContainsAny(line, "\t\r\"\\#") {
			t.Errorf("line %d is %q", i, line)
			return
		}
		if strings.HasSuffix(line, "}") {
			if len(open) == 0 || in != open[len(open)-1] || line[in:] != "}" {
				t.Errorf("line %d is %q, in %v", i, line, open)
				return
			}
			open = open[:len(open)-1]
			continue
		}
		if in != 2*len(open) {
			t.Errorf("line %d is %q, in %v", i, line, open)
		}
		words := strings.Split(line[in:], " ")
		switch {
		case len(words) == 3 && words[2] == "{" && lex.Plain(words[0]) && lex.Plain(words[1]):
			open = append(open, in)
		case len(words) == 2 && lex.Plain(words[0]) && strings.HasSuffix(words[1], ";") && lex.Plain(strings.TrimSuffix(words[1], ";")):
		default:
			t.Errorf("line %d is %q", i, line)
		}
	}
	if len(open) > 0 {
		t.Errorf("%d are open at the end of %s", len(open), clipped(text))
	}
}

func TestLayout(t *testing.T) { // P11.1
	versions(func(version int) {
		for _, n := range []api.Node{{}, box("", ident("system", "s")), full(version), crowd(version)} {
			wantLayout(t, printer.Text(version, n))
		}
	})
	r := rand.New(rand.NewSource(3))
	for range 300 {
		version := 1 + r.Intn(3)
		wantLayout(t, printer.Text(version, some(r, version)))
	}
}

func TestLines(t *testing.T) { // P11.2
	l := num("l", 1)
	kids := with(box("k", num("a", 1), box("b", num("c", 1))), api.Bool, 0, "")
	for _, x := range []struct {
		n    api.Node
		want int
	}{
		{api.Node{}, 1},
		{num("l", 7), 1},
		{ident("l[k]", "s"), 1},
		{box("b"), 1},
		{box("b[k]"), 1},
		{box("", l), 2},
		{box("", l, l, l), 4},
		{box("", rate("r", 1), flag("f", 1), enum("e", "x"), ident("i", "x"), ref("r", "x")), 6},
		{box("", box("b")), 3},
		{box("", box("b[k]"), box("b[l]")), 5},
		{box("", box("b", l)), 4},
		{box("", box("b", box("b"))), 5},
		{box("", box("b", box("b", box("b")))), 7},
		{box("", box("b", box("b", box("b", l), l), l), l), 11},
		{box("", l, box("b", l, box("c", l, l), l), box("d"), l), 1 + 1 + (2 + 1 + (2 + 2) + 1) + 2 + 1},
		// What a leaf has within counts where it is the root, and not where it is a kid.
		{kids, 5},
		{box("", kids), 2},
		{box("", kids, box("b", kids), kids), 6},
		// Leaves are those whose Kind isn't None, whatever else they have.
		{box("", with(box("l"), api.None, 7, "t")), 3},
		{box("", with(box("l", l, l), api.None, 7, "t")), 5},
		{box("", with(box("l[k]"), api.Uint, 0, "")), 2},
		// Out of order, twice, and of names that there aren't.
		{box("", box("z", l, l), box("a"), box("a"), l, l), 11},
	} {
		wantLines(t, x.n, x.want)
	}
	for _, kind := range []int{-1, -2, -api.Ref, math.MinInt, math.MinInt32, api.Ref + 1, api.Ref + 2, 100, 256, 1 << 16, 1 << 32, math.MaxInt} {
		n := with(box("l", l, l), kind, 0, "")
		wantLines(t, n, 3)
		wantLines(t, box("", n), 2)
		wantLines(t, box("", n, n, box("b", n)), 6)
	}
}

// count is what Lines answers.
func count(n api.Node) int {
	sum := 1
	for _, kid := range n.Kids {
		if kid.Val.Kind != api.None {
			sum++
		} else {
			sum += 1 + count(kid)
		}
	}
	return sum
}

// wild is any tree, valid or not.
func wild(r *rand.Rand, depth int) api.Node {
	n := box([]string{"", "a", "b[k]", "port[a]", "class[x]", "\xff", "system"}[r.Intn(7)])
	if r.Intn(3) == 0 {
		n.Val = api.Val{Kind: r.Intn(12) - 3, Num: uint64(r.Intn(3)), Text: []string{"", "x"}[r.Intn(2)]}
	}
	for range r.Intn(5) {
		if depth > 0 {
			n.Kids = append(n.Kids, wild(r, depth-1))
		}
	}
	return n
}

func TestLinesOfAnything(t *testing.T) { // P11.1, P11.2
	r := rand.New(rand.NewSource(4))
	for range 3000 {
		n := wild(r, r.Intn(6))
		wantLines(t, n, count(n))
		version := r.Intn(5)
		wantText(t, version, n, model(version, n))
	}
	versions(func(version int) {
		for i := range spots(new(full(version))) {
			for _, v := range []api.Val{{}, {Kind: -1}, {Kind: 7}, {Kind: api.Bool}} {
				n := full(version)
				spots(&n)[i].Val = v
				wantLines(t, n, count(n))
				wantText(t, version, n, model(version, n))
			}
		}
	})
}

// A tree may be deeper and wider than a valid one.
func TestBig(t *testing.T) { // P11.1, P11.2
	deep := box("port[a]")
	for range 1<<16 - 2 {
		deep = box("port[a]", deep)
	}
	wantLines(t, deep, 1+2*(1<<16-2))
	wantText(t, 1, deep, "")
	wantText(t, 3, box("", deep), "")
	wide := api.Node{Kids: make([]api.Node, 1<<18)}
	for i := range wide.Kids {
		wide.Kids[i] = num("x", 1)
	}
	wantLines(t, wide, 1+1<<18)
	wantText(t, 2, wide, "")
}

// name is one that may be.
func name(r *rand.Rand) string {
	s := string(rune('a' + r.Intn(26)))
	for range r.Intn(12) {
		s += string("abz019-"[r.Intn(7)])
	}
	return s
}

// names is up to most of them, no two the same.
func names(r *rand.Rand, most int) []string {
	var l []string
	for range r.Intn(most + 1) {
		if s := name(r); !slices.Contains(l, s) {
			l = append(l, s)
		}
	}
	return l
}

func within(r *rand.Rand, least, most int) uint64 { return uint64(least + r.Intn(most-least+1)) }

// some is any valid tree of a version.
func some(r *rand.Rand, version int) api.Node {
	var n api.Node
	if r.Intn(2) == 0 {
		n.Kids = append(n.Kids, ident("system", name(r)))
	}
	if version == 3 && r.Intn(2) == 0 {
		n.Kids = append(n.Kids, num("wait", within(r, 1, 1000)))
	}
	for _, key := range names(r, api.MaxPorts) {
		n.Kids = append(n.Kids, somePort(r, version, key))
	}
	return tree.Sorted(n)
}

func somePort(r *rand.Rand, version int, key string) api.Node {
	classes := append(names(r, api.MaxClasses-1), "be")
	n := box("port["+key+"]", ref("default", classes[r.Intn(len(classes))]))
	for _, key := range classes {
		c := box("class["+key+"]", num("quantum", within(r, 1500, 100000)), rate("rate", within(r, 0, 1000)*[]uint64{1, 1000}[r.Intn(2)]), num("burst", within(r, 1500, 1000000)), num(limit(version), within(r, 1, 64)))
		if version > 1 {
			c.Kids = append(c.Kids, flag("shaped", within(r, 0, 1)))
		}
		n.Kids = append(n.Kids, c)
	}
	for _, key := range names(r, api.MaxRules) {
		n.Kids = append(n.Kids, box("rule["+key+"]", num("low", within(r, 0, 65535)), num("high", within(r, 0, 65535)), ref("class", classes[r.Intn(len(classes))])))
	}
	if r.Intn(2) == 0 {
		n.Kids = append(n.Kids, flag("up", within(r, 0, 1)))
	}
	if version > 1 && r.Intn(2) == 0 {
		n.Kids = append(n.Kids, enum("kind", []string{"edge", "core", "lab"}[r.Intn(3)]))
	}
	return n
}

// read is the tree of a text, and its version: what the text's tokens say, with no look at lines and blanks.
func read(t *testing.T, text string) (int, api.Node) {
	t.Helper()
	l, err, at := lex.All(text)
	if err != api.OK || len(l) < 4 || l[0].Text != "version" {
		t.Fatalf("%d at %v in %s", err, at, clipped(text))
	}
	version, _ := strconv.Atoi(l[1].Text)
	root, err := spec.Root(version)
	if err != api.OK {
		t.Fatalf("no version in %s", clipped(text))
	}
	l = l[3 : len(l)-1]
	var kids func(s spec.Spec) []api.Node
	kids = func(s spec.Spec) []api.Node {
		var out []api.Node
		for len(l) > 0 && l[0].Kind != lex.Close {
			place := spec.Find(s, l[0].Text)
			if place < 0 || len(l) < 3 {
				t.Fatalf("%v is not understood", l[0])
			}
			is, n, mark := s.Kids[place], api.Node{Name: l[0].Text}, l[2].Kind
			said := l[1].Text
			l = l[3:]
			if mark == lex.Open {
				n.Key, n.Kids = said, kids(is)
				l = l[1:]
			} else {
				n.Val, _ = value.Parse(is, said)
			}
			out = append(out, n)
		}
		return out
	}
	return version, api.Node{Kids: kids(root)}
}

func TestReadBack(t *testing.T) { // P11.1, P11.2, P11.3
	r := rand.New(rand.NewSource(5))
	for range 500 {
		version := 1 + r.Intn(3)
		n := some(r, version)
		text := printer.Text(version, n)
		wantValid(t, version, n, model(version, n))
		if len(text) > api.MaxBytes {
			continue
		}
		if v, back := read(t, text); v != version || !tree.Same(n, back) {
			t.Fatalf("%s is read as %d, %s", text, v, show(back))
		}
	}
}

// apart is valid trees of a version, each of which differs from full in one thing.
func apart(version int) []api.Node {
	var l []api.Node
	for i, spot := range spots(new(full(version))) {
		changes := []func(n *api.Node){
			func(n *api.Node) { n.Key += "1" },
			func(n *api.Node) { n.Key += "-" },
			func(n *api.Node) { n.Kids = nil },
			func(n *api.Node) { n.Val.Num++ },
			func(n *api.Node) { n.Val.Num-- },
			func(n *api.Node) { n.Val.Num *= 1000 },
			func(n *api.Node) { n.Val.Text += "s" },
			func(n *api.Node) { n.Kids = append(n.Kids, class(version, "more")) },
			func(n *api.Node) { n.Kids = append(n.Kids, rule("more", "x")) },
			func(n *api.Node) { n.Kids = append(n.Kids, flag("up", 0)) },
			func(n *api.Node) { n.Kids = append(n.Kids, enum("kind", "core")) },
		}
		for _, text := range []string{"be", "gold", "idle", "x", "edge", "core", "lab"} {
			changes = append(changes, func(n *api.Node) { n.Val.Text = text })
		}
		for k := range spot.Kids {
			changes = append(changes, func(n *api.Node) { n.Kids = slices.Delete(n.Kids, k, k+1) })
		}
		for _, c := range changes {
			n := full(version)
			c(spots(&n)[i])
			n = tree.Sorted(n)
			if valid.May(version, n) && !slices.ContainsFunc(l, func(x api.Node) bool { return tree.Same(x, n) }) {
				l = append(l, n)
			}
		}
	}
	return l
}

func TestApart(t *testing.T) { // P11.3
	texts := map[string]api.Node{}
	versions(func(version int) {
		l := apart(version)
		if len(l) < 60 {
			t.Errorf("version %d: only %d trees", version, len(l))
		}
		for _, n := range l {
			text := printer.Text(version, n)
			if other, ok := texts[text]; ok || text == "" {
				t.Errorf("version %d: %s and %s have the text %q", version, show(n), show(other), clipped(text))
			}
			texts[text] = n
			for range 2 {
				wantText(t, version, tree.Sorted(n), text)
			}
		}
	})
}

// TestApartVersions has trees that are valid in several versions, and ones that differ in their versions and in one Name.
func TestApartVersions(t *testing.T) { // P11.3
	for _, n := range []api.Node{{}, box("", ident("system", "s"))} {
		one, two, three := printer.Text(1, n), printer.Text(2, n), printer.Text(3, n)
		if one == two || two == three || one == three || one == "" || two == "" || three == "" {
			t.Errorf("%s: %q, %q, %q", show(n), one, two, three)
		}
	}
	n := func(version int) api.Node {
		return box("", box("port[a]", class(version, "x"), ref("default", "x")))
	}
	two, three := printer.Text(2, n(2)), printer.Text(3, n(3))
	if two == three || strings.Replace(strings.Replace(two, "limit", "depth", 1), "version 2", "version 3", 1) != three {
		t.Errorf("%q, %q", two, three)
	}
}

// roomy is a copy of a tree, whose lists have room behind them, with something in it.
func roomy(n api.Node) api.Node {
	kids := make([]api.Node, len(n.Kids), len(n.Kids)+3)
	for i, kid := range n.Kids {
		kids[i] = roomy(kid)
	}
	for i := len(kids); i < cap(kids); i++ {
		kids[:cap(kids)][i] = num("spare", uint64(i))
	}
	n.Kids = kids
	return n
}

// image is a tree with all that is in its lists' rooms.
func image(n api.Node) string {
	s := show(api.Node{Name: n.Name, Key: n.Key, Val: n.Val}) + "(" + strconv.Itoa(len(n.Kids)) + ":"
	for _, kid := range n.Kids[:cap(n.Kids)] {
		s += image(kid) + " "
	}
	return s + ")"
}

func TestArguments(t *testing.T) { // P11.1, P11.2
	versions(func(version int) {
		l := append(apart(version), full(version), crowd(version), box("x", num("z", 1), num("a", 1)))
		for _, n := range l {
			want := model(version, n)
			n = roomy(n)
			before := image(n)
			wantText(t, version, n, want)
			wantText(t, 4, n, "")
			wantLines(t, n, count(n))
			if image(n) != before {
				t.Errorf("%s was changed", clipped(show(n)))
			}
		}
	})
}

// TestTwice: what is answered hangs on nothing but what is given.
func TestTwice(t *testing.T) { // P11.1, P11.2, P11.3
	versions(func(version int) {
		want := printer.Text(version, full(version))
		for range 3 {
			printer.Text(1+version%3, full(1+version%3))
			printer.Text(version, box("x"))
			printer.Lines(crowd(version))
			wantText(t, version, full(version), want)
			wantLines(t, full(version), strings.Count(want, "\n"))
		}
	})
}
