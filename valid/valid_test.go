package valid_test

import (
	"math"
	"math/rand"
	"slices"
	"strconv"
	"strings"
	"testing"

	"tollbar/api"
	"tollbar/scalar"
	"tollbar/spec"
	"tollbar/tree"
	"tollbar/valid"
	"tollbar/value"
)

// The calls of the chapter, with just these signatures.
var (
	_ func(int, api.Node) (api.Errno, []api.Step) = valid.Check
	_ func(int, api.Node) bool                    = valid.May
	_ func(api.Node) (api.Errno, []api.Step)      = valid.Refs
)

// step is the step of a short text: a name, or a name and a key in brackets.
func step(s string) api.Step {
	name, key, _ := strings.Cut(strings.TrimSuffix(s, "]"), "[")
	return api.Step{Name: name, Key: key}
}

// way is the steps of a text, with a / between two.
func way(s string) []api.Step {
	var l []api.Step
	for part := range strings.SplitSeq(s, "/") {
		if s != "" {
			l = append(l, step(part))
		}
	}
	return l
}

// box is a node that is no leaf; the others are leaves.
func box(s string, kids ...api.Node) api.Node {
	return api.Node{Name: step(s).Name, Key: step(s).Key, Kids: kids}
}

func with(n api.Node, kind int, num uint64, text string) api.Node {
	n.Val = api.Val{Kind: kind, Num: num, Text: text}
	return n
}

func num(s string, n uint64) api.Node  { return with(box(s), api.Uint, n, "") }
func rate(s string, n uint64) api.Node { return with(box(s), api.Rate, n, "") }
func flag(s string, n uint64) api.Node { return with(box(s), api.Bool, n, "") }
func enum(s, text string) api.Node     { return with(box(s), api.Enum, 0, text) }
func ident(s, text string) api.Node    { return with(box(s), api.Ident, 0, text) }
func ref(s, text string) api.Node      { return with(box(s), api.Ref, 0, text) }

// limit is what the leaf of a class that bounds its queue is named.
func limit(version int) string {
	if version == 3 {
		return "depth"
	}
	return "limit"
}

func class(version int, key string) api.Node {
	n := box("class["+key+"]", num("burst", 3000), num(limit(version), 8), num("quantum", 1500), rate("rate", 1000))
	if version > 1 {
		n.Kids = append(n.Kids, flag("shaped", 1))
	}
	return tree.Sorted(n)
}

func rule(key, class string) api.Node {
	return box("rule["+key+"]", ref("class", class), num("high", 19), num("low", 10))
}

// full is a valid tree with everything that a version has, made anew for each call.
func full(version int) api.Node {
	port := box("port[a]", class(version, "be"), class(version, "gold"), class(version, "idle"), ref("default", "be"), rule("r", "gold"), rule("s", "be"), flag("up", 1))
	if version > 1 {
		port.Kids = append(port.Kids, enum("kind", "core"))
	}
	n := box("", port, box("port[b]", class(version, "x"), ref("default", "x")), ident("system", "s"))
	if version > 2 {
		n.Kids = append(n.Kids, num("wait", 1000))
	}
	return tree.Sorted(n)
}

// versions calls for each version that there is.
func versions(call func(version int)) {
	for version := 1; version <= 3; version++ {
		call(version)
	}
}

// change is full after changes; their kids are put in order again.
func change(version int, changes ...func(n *api.Node)) api.Node {
	n := full(version)
	for _, c := range changes {
		c(&n)
	}
	return tree.Sorted(n)
}

// find is the node at a way in a tree, where it stands.
func find(n *api.Node, at string) *api.Node {
	for _, s := range way(at) {
		i := slices.IndexFunc(n.Kids, func(kid api.Node) bool { return kid.Name == s.Name && kid.Key == s.Key })
		n = &n.Kids[i]
	}
	return n
}

// add lays kids into the node at a way, behind the others.
func add(at string, kids ...api.Node) func(*api.Node) {
	return func(n *api.Node) {
		box := find(n, at)
		box.Kids = append(box.Kids, kids...)
	}
}

// cut takes the nodes at some ways away.
func cut(ways ...string) func(*api.Node) {
	return func(n *api.Node) {
		for _, at := range ways {
			box, last := n, at
			if i := strings.LastIndex(at, "/"); i >= 0 {
				box, last = find(n, at[:i]), at[i+1:]
			}
			box.Kids = slices.DeleteFunc(box.Kids, func(kid api.Node) bool { return kid.Name == step(last).Name && kid.Key == step(last).Key })
		}
	}
}

// put changes the node at a way.
func put(at string, call func(n *api.Node)) func(*api.Node) {
	return func(n *api.Node) { call(find(n, at)) }
}

// val gives the node at a way another value.
func val(at string, v api.Val) func(*api.Node) {
	return put(at, func(n *api.Node) { n.Val = v })
}

// key gives the node at a way another key.
func key(at, key string) func(*api.Node) {
	return put(at, func(n *api.Node) { n.Key = key })
}

// show is a tree, or a way, as text, for reports.
func show(n api.Node) string {
	s := n.Name
	if n.Key != "" {
		s += "[" + n.Key + "]"
	}
	if n.Val != (api.Val{}) {
		s += "=" + strconv.Itoa(n.Val.Kind) + ":" + strconv.FormatUint(n.Val.Num, 10) + ":" + strconv.Quote(n.Val.Text)
	}
	if len(n.Kids) > 0 {
		var l []string
		for _, kid := range n.Kids {
			l = append(l, show(kid))
		}
		s += "{" + strings.Join(l, " ") + "}"
	}
	if len(s) > 2000 {
		s = s[:2000] + ".."
	}
	return s
}

func showWay(w []api.Step) string {
	var l []string
	for _, s := range w {
		l = append(l, strconv.Quote(s.Name)+"["+strconv.Quote(s.Key)+"]")
	}
	return strings.Join(l, "/")
}

func wantCheckWay(t *testing.T, version int, n api.Node, want api.Errno, at []api.Step) {
	t.Helper()
	if err, w := valid.Check(version, n); err != want || !slices.Equal(w, at) {
		t.Errorf("Check(%d, %s) = %d at %s, not %d at %s", version, show(n), err, showWay(w), want, showWay(at))
	}
	if may := valid.May(version, n); may != (want == api.OK) {
		t.Errorf("May(%d, %s) = %v beside %d", version, show(n), may, want)
	}
}

func wantCheck(t *testing.T, version int, n api.Node, want api.Errno, at string) {
	t.Helper()
	wantCheckWay(t, version, n, want, way(at))
}

func wantRefsWay(t *testing.T, n api.Node, want api.Errno, at []api.Step) {
	t.Helper()
	if err, w := valid.Refs(n); err != want || !slices.Equal(w, at) {
		t.Errorf("Refs(%s) = %d at %s, not %d at %s", show(n), err, showWay(w), want, showWay(at))
	}
}

func wantRefs(t *testing.T, n api.Node, want api.Errno, at string) {
	t.Helper()
	wantRefsWay(t, n, want, way(at))
}

func TestExamples(t *testing.T) { // P10.1, P10.2
	versions(func(version int) {
		wantCheck(t, version, api.Node{}, api.OK, "")
		wantCheck(t, version, api.Node{Kids: []api.Node{}}, api.OK, "")
		wantCheck(t, version, full(version), api.OK, "")
		wantCheck(t, version, box("", box("port[a]")), api.ErrLack, "port[a]/default")
		wantCheck(t, version, change(version, cut("port[a]/default")), api.ErrLack, "port[a]/default")
	})
	// The tree of the document's example, and the second example of the whole.
	n := box("", box("port[a]",
		box("class[be]", num("burst", 3000), num("depth", 8), num("quantum", 1500), rate("rate", 1000), flag("shaped", 1)),
		box("class[gold]", num("burst", 3000), num("depth", 4), num("quantum", 3000), rate("rate", 0), flag("shaped", 0)),
		ref("default", "be"),
		box("rule[r]", ref("class", "gold"), num("high", 19), num("low", 10))))
	wantCheck(t, 3, n, api.OK, "")
	wantCheck(t, 2, n, api.ErrName, "port[a]/class[be]/depth")
	wantCheck(t, 1, n, api.ErrName, "port[a]/class[be]/depth")
	versions(func(version int) {
		wantCheck(t, version, box("", box("port[a]", ref("default", "x"))), api.ErrRef, "port[a]/default")
	})
}

func TestVersions(t *testing.T) { // P10.1
	bad := change(1, val("system", api.Val{Kind: api.Uint}))
	unordered := box("", ident("system", "s"), box("port[a]"))
	for _, version := range []int{math.MinInt, math.MinInt32, -3, -1, 0, 4, 5, 255, 257, 1<<16 + 1, 1<<32 + 1, 1<<32 + 2, 1<<33 + 3, math.MaxInt} {
		for _, n := range []api.Node{{}, full(1), full(2), full(3), bad, unordered, box("x"), box("", box("port[a]", ref("default", "x")))} {
			wantCheck(t, version, n, api.Version, "")
		}
	}
	// What one version has and another one hasn't.
	wantCheck(t, 2, full(1), api.ErrLack, "port[a]/class[be]/shaped")
	wantCheck(t, 3, full(1), api.ErrName, "port[a]/class[be]/limit")
	wantCheck(t, 1, full(2), api.ErrName, "port[a]/class[be]/shaped")
	wantCheck(t, 3, full(2), api.ErrName, "port[a]/class[be]/limit")
	wantCheck(t, 1, full(3), api.ErrName, "port[a]/class[be]/depth")
	wantCheck(t, 2, full(3), api.ErrName, "port[a]/class[be]/depth")
}

func TestRoot(t *testing.T) { // P10.1
	versions(func(version int) {
		inner := []func(*api.Node){
			func(*api.Node) {},
			val("system", api.Val{Kind: api.Uint}),
			add("", num("x", 1)),
			cut("port[a]/default"),
			val("port[a]/default", api.Val{Kind: api.Ref, Text: "none"}),
		}
		outer := []func(*api.Node){
			func(n *api.Node) { n.Name = "x" },
			func(n *api.Node) { n.Name = "port" },
			func(n *api.Node) { n.Name = "\x00" },
			func(n *api.Node) { n.Key = "a" },
			func(n *api.Node) { n.Key = "A" },
			func(n *api.Node) { n.Val.Kind = api.Bool },
			func(n *api.Node) { n.Val.Kind = -1 },
			func(n *api.Node) { n.Val.Num = 1 },
			func(n *api.Node) { n.Val.Text = "x" },
			func(n *api.Node) { slices.Reverse(n.Kids) },
			func(n *api.Node) { n.Kids = append(n.Kids, n.Kids[len(n.Kids)-1]) },
			func(n *api.Node) { n.Kids = append([]api.Node{n.Kids[0]}, n.Kids...) },
			func(n *api.Node) { find(n, "system").Val = api.Val{Num: 1} },
			func(n *api.Node) { find(n, "system").Val = api.Val{Text: "s"} },
			func(n *api.Node) { find(n, "system").Kids = []api.Node{num("x", 1)} },
			func(n *api.Node) { slices.Reverse(find(n, "port[a]").Kids) },
			func(n *api.Node) { slices.Reverse(find(n, "port[a]/class[idle]").Kids) },
			func(n *api.Node) { slices.Reverse(find(n, "port[a]/rule[s]").Kids) },
			func(n *api.Node) { find(n, "port[a]/rule[s]/low").Kids = []api.Node{{}} },
			func(n *api.Node) { find(n, "port[a]").Val.Num = 1 },
			func(n *api.Node) { find(n, "port[a]/class[idle]").Val.Text = "x" },
			func(n *api.Node) { find(n, "port[b]").Val = api.Val{Kind: api.Bool} },
			func(n *api.Node) {
				p := find(n, "port[a]")
				p.Kids = slices.Insert(p.Kids, 1, p.Kids[0])
			},
			func(n *api.Node) {
				c := find(n, "port[a]/class[gold]")
				c.Kids = append(c.Kids, c.Kids[len(c.Kids)-1])
			},
			// Deep inside of what the schema doesn't have.
			func(n *api.Node) { n.Kids = append(n.Kids, box("x", box("y", box("b"), box("a")))) },
		}
		for _, in := range inner {
			for _, out := range outer {
				n := change(version, in)
				out(&n)
				wantCheck(t, version, n, api.ErrArg, "")
			}
		}
		// A root that has its faults and nothing else.
		for _, n := range []api.Node{box("x"), box("[k]"), num("", 0), {Val: api.Val{Num: 1}}, {Val: api.Val{Text: "t"}}, ident("system", "s")} {
			wantCheck(t, version, n, api.ErrArg, "")
		}
	})
}

// places is where something may stand, and schema what it is that a version may have there, by name: an i is a List.
var places = []string{"", "port[a]", "port[a]/class[gold]", "port[a]/rule[s]"}

func schema(version int, place string) string {
	return map[string][]string{
		"":                    {"system port+", "system port+", "system port+ wait"},
		"port[a]":             {"up class+ rule+ default", "up class+ rule+ default kind", "up class+ rule+ default kind"},
		"port[a]/class[gold]": {"quantum rate burst limit", "quantum rate burst limit shaped", "quantum rate burst depth shaped"},
		"port[a]/rule[s]":     {"low high class", "low high class", "low high class"},
	}[place][version-1]
}

// words is all names of all schemas, and others.
func words() []string {
	return strings.Fields("system port wait up class rule default kind quantum rate burst limit depth shaped low high " +
		"x a b Port ports por PORT zz class\x00 version root \xff é")
}

func join(at, last string) string {
	if at == "" {
		return last
	}
	return at + "/" + last
}

func TestNames(t *testing.T) { // P10.2
	versions(func(version int) {
		for _, place := range places {
			may := strings.Fields(strings.ReplaceAll(schema(version, place), "+", ""))
			for _, word := range append(words(), "") {
				if slices.Contains(may, word) {
					continue
				}
				for _, n := range []api.Node{num(word, 1), flag(word, 1), box(word), num(word+"[k]", 1), box(word + "[k]"), box(word+"[k]", num("low", 1)), box(word+"[A]", box("x", box("y")))} {
					at := append(way(place), api.Step{Name: n.Name, Key: n.Key})
					wantCheckWay(t, version, change(version, add(place, n)), api.ErrName, at)
				}
			}
		}
	})
}

// leaves is the leaves of a version, with values that they may have and some that they may not.
type leafCase struct {
	at       string
	yes, not []api.Val
}

func vals(kind int, l ...uint64) []api.Val {
	var r []api.Val
	for _, n := range l {
		r = append(r, api.Val{Kind: kind, Num: n})
	}
	return r
}

func texts(kind int, l ...string) []api.Val {
	var r []api.Val
	for _, s := range l {
		r = append(r, api.Val{Kind: kind, Text: s})
	}
	return r
}

var notNames = []string{"", "A", "1", "-", "-a", "a_", "a b", "a/b", "aaaaaaaaaaaaa", "é", "a\x00", "a[", "Be"}

func leaves(version int) []leafCase {
	l := []leafCase{
		{"system", texts(api.Ident, "a", "s-1", "aaaaaaaaaaaa"), texts(api.Ident, notNames...)},
		{"port[a]/up", vals(api.Bool, 0, 1), vals(api.Bool, 2, 255, 1<<32, math.MaxUint64)},
		{"port[a]/class[gold]/quantum", vals(api.Uint, 1500, 1501, 100000), vals(api.Uint, 0, 1, 1499, 100001, 1<<32+1500, math.MaxUint64)},
		{"port[a]/class[gold]/rate", vals(api.Rate, 0, 1, 1000000), vals(api.Rate, 1000001, 1<<32, math.MaxUint64)},
		{"port[a]/class[gold]/burst", vals(api.Uint, 1500, 1000000), vals(api.Uint, 0, 1499, 1000001, math.MaxUint64)},
		{"port[a]/class[gold]/" + limit(version), vals(api.Uint, 1, 64), vals(api.Uint, 0, 65, 257, math.MaxUint64)},
		{"port[a]/rule[s]/low", vals(api.Uint, 0, 65535), vals(api.Uint, 65536, math.MaxUint64)},
		{"port[a]/rule[s]/high", vals(api.Uint, 0, 65535), vals(api.Uint, 65536, math.MaxUint64)},
		{"port[a]/rule[s]/class", texts(api.Ref, "be", "gold", "idle"), texts(api.Ref, notNames...)},
		{"port[a]/default", texts(api.Ref, "be", "gold", "idle"), texts(api.Ref, notNames...)},
	}
	if version > 1 {
		l = append(l, leafCase{"port[a]/class[gold]/shaped", vals(api.Bool, 0, 1), vals(api.Bool, 2, math.MaxUint64)},
			leafCase{"port[a]/kind", texts(api.Enum, "edge", "core", "lab"), texts(api.Enum, "", "Edge", "edges", "la", "labcore")})
	}
	if version > 2 {
		l = append(l, leafCase{"wait", vals(api.Uint, 1, 1000), vals(api.Uint, 0, 1001, math.MaxUint64)})
	}
	return l
}

func TestLeaves(t *testing.T) { // P10.2
	versions(func(version int) {
		for _, c := range leaves(version) {
			for _, v := range c.yes {
				wantCheck(t, version, change(version, val(c.at, v)), api.OK, "")
				for kind := -1; kind <= 8; kind++ {
					if kind != v.Kind && kind != api.None {
						other := v
						other.Kind = kind
						wantCheck(t, version, change(version, val(c.at, other)), api.ErrValue, c.at)
					}
				}
				// Both, a number and a text.
				both := v
				if both.Num++; v.Text == "" {
					both = api.Val{Kind: v.Kind, Num: v.Num, Text: "be"}
				}
				wantCheck(t, version, change(version, val(c.at, both)), api.ErrValue, c.at)
			}
			for _, v := range c.not {
				wantCheck(t, version, change(version, val(c.at, v)), api.ErrValue, c.at)
			}
			wantLeafForm(t, version, c.at)
		}
	})
}

// wantLeafForm tries a leaf that is none, or has a key.
func wantLeafForm(t *testing.T, version int, at string) {
	t.Helper()
	none := val(at, api.Val{})
	wantCheck(t, version, change(version, none), api.ErrValue, at)
	wantCheck(t, version, change(version, none, add(at, num("x", 1))), api.ErrValue, at)
	wantCheck(t, version, change(version, none, add(at, box("x", box("y")))), api.ErrValue, at)
	wantCheck(t, version, change(version, none, add(at, num("x", 1), num("y", 1))), api.ErrValue, at)
	wantCheck(t, version, change(version, add(at, num("x", 1))), api.ErrArg, "")
	for _, k := range []string{"k", "A", "\x00", "aaaaaaaaaaaaa"} {
		wantCheck(t, version, change(version, key(at, k)), api.ErrValue, at+"["+k+"]")
		wantCheck(t, version, change(version, key(at, k), val(at+"["+k+"]", api.Val{})), api.ErrValue, at+"["+k+"]")
		// One with a key beside the one without.
		twin := change(version, func(n *api.Node) {
			other := *find(n, at)
			other.Key = k
			box := n
			if i := strings.LastIndex(at, "/"); i >= 0 {
				box = find(n, at[:i])
			}
			box.Kids = append(box.Kids, other)
		})
		wantCheck(t, version, twin, api.ErrValue, at+"["+k+"]")
	}
}

// lists is an item of each list, to which nothing refers.
var lists = []string{"port[b]", "port[a]/class[idle]", "port[a]/rule[s]"}

func TestItems(t *testing.T) { // P10.2
	versions(func(version int) {
		for _, at := range lists {
			for _, v := range []api.Val{{Kind: api.Uint, Num: 1}, {Kind: api.Bool}, {Kind: api.Ident, Text: "a"}, {Kind: -1}, {Kind: 7}} {
				n := change(version, val(at, v), put(at, func(n *api.Node) { n.Kids = nil }))
				wantCheck(t, version, n, api.ErrValue, at)
				// Right doesn't accept a value beside kids, and a value without a kind.
				wantCheck(t, version, change(version, val(at, v)), api.ErrArg, "")
			}
			for _, v := range []api.Val{{Num: 1}, {Text: "a"}} {
				wantCheck(t, version, change(version, val(at, v)), api.ErrArg, "")
			}
			parts := way(at)
			for _, k := range notNames {
				w := slices.Clone(parts)
				w[len(w)-1].Key = k
				wantCheckWay(t, version, change(version, key(at, k)), api.ErrValue, w)
				// Ahead of what is wrong inside it.
				inside := add(at, num("x", 1))
				wantCheckWay(t, version, change(version, inside, key(at, k)), api.ErrValue, w)
			}
			for _, k := range []string{"a1", "z", "c-d", "zzzzzzzzzzzz", "z-0-9-a"} {
				wantCheck(t, version, change(version, key(at, k)), api.OK, "")
			}
			wantCheck(t, version, change(version, add(at, num("x", 1))), api.ErrName, at+"/x")
		}
		// What is wrong at each depth below an item.
		wantCheck(t, version, change(version, val("port[a]/class[be]/rate", api.Val{Kind: api.Uint})), api.ErrValue, "port[a]/class[be]/rate")
		wantCheck(t, version, change(version, add("port[b]/class[x]", box("z"))), api.ErrName, "port[b]/class[x]/z")
	})
}

// many is items with keys in order, made from one.
func many(n api.Node, count int) []api.Node {
	var l []api.Node
	for i := range count {
		n.Key = "k" + strconv.Itoa(100+i)
		l = append(l, n)
	}
	return l
}

// crowd is a tree with so many ports, and its first port with so many classes and rules.
func crowd(version, ports, classes, rules int) api.Node {
	n := box("", many(box("port", class(version, "c"), ref("default", "c")), ports)...)
	p := &n.Kids[0]
	p.Kids = append(many(class(version, ""), classes), many(rule("", "k100"), rules)...)
	p.Kids = append(p.Kids, ref("default", "k100"), flag("up", 0))
	if version > 1 {
		p.Kids = append(p.Kids, enum("kind", "lab"))
	}
	return tree.Sorted(n)
}

func TestMost(t *testing.T) { // P10.2
	versions(func(version int) {
		for ports := 1; ports <= 7; ports++ {
			if ports <= 4 {
				wantCheck(t, version, crowd(version, ports, 1, 1), api.OK, "")
			} else {
				wantCheck(t, version, crowd(version, ports, 1, 1), api.ErrMany, "port[k104]")
			}
		}
		for classes := 1; classes <= 8; classes++ {
			for rules := 0; rules <= 16; rules++ {
				wantCheck(t, version, crowd(version, 4, classes, rules), api.OK, "")
			}
			wantCheck(t, version, crowd(version, 1, classes, 17), api.ErrMany, "port[k100]/rule[k116]")
			wantCheck(t, version, crowd(version, 5, classes, 40), api.ErrMany, "port[k100]/rule[k116]")
		}
		wantCheck(t, version, crowd(version, 1, 9, 0), api.ErrMany, "port[k100]/class[k108]")
		wantCheck(t, version, crowd(version, 5, 12, 17), api.ErrMany, "port[k100]/class[k108]")
	})
}

func TestMostOrder(t *testing.T) { // P10.2
	versions(func(version int) {
		edit := func(n api.Node, changes ...func(*api.Node)) api.Node {
			for _, c := range changes {
				c(&n)
			}
			return tree.Sorted(n)
		}
		five := func() api.Node { return crowd(version, 5, 1, 1) }
		// Of one item that is one too many: its own value first, then its number, then what is inside it.
		wantCheck(t, version, edit(five(), key("port[k104]", "k104_")), api.ErrValue, "port[k104_]")
		wantCheck(t, version, edit(five(), add("port[k104]", num("x", 1))), api.ErrMany, "port[k104]")
		wantCheck(t, version, edit(five(), cut("port[k104]/default")), api.ErrMany, "port[k104]")
		wantCheck(t, version, edit(five(), func(n *api.Node) { *find(n, "port[k104]") = num("port[k104]", 1) }), api.ErrValue, "port[k104]")
		// What is inside the ones ahead comes first, what is inside those behind doesn't come; an item counts whatever is wrong with it.
		wantCheck(t, version, edit(five(), add("port[k103]", num("x", 1))), api.ErrName, "port[k103]/x")
		wantCheck(t, version, edit(five(), key("port[k102]", "k102_")), api.ErrValue, "port[k102_]")
		wantCheck(t, version, edit(crowd(version, 6, 1, 1), add("port[k105]", num("x", 1))), api.ErrMany, "port[k104]")
		wantCheck(t, version, edit(five(), add("", num("x", 1))), api.ErrMany, "port[k104]")
		wantCheck(t, version, edit(five(), add("", num("a", 1))), api.ErrName, "a")
		// Each list of each node has its own items.
		two := crowd(version, 2, 8, 16)
		two.Kids[1].Kids = slices.Clone(two.Kids[0].Kids)
		wantCheck(t, version, two, api.OK, "")
		wantCheck(t, version, edit(two, add("port[k101]", class(version, "k2"))), api.ErrMany, "port[k101]/class[k2]")
	})
}

// musts is the mandatory leaves of a version, each at its place, in the schema's order.
func musts(version int) map[string][]string {
	m := map[string][]string{
		"port[a]":             {"default"},
		"port[a]/class[gold]": {"quantum", "rate", "burst", limit(version)},
		"port[a]/rule[s]":     {"low", "high", "class"},
	}
	if version > 1 {
		m["port[a]/class[gold]"] = append(m["port[a]/class[gold]"], "shaped")
	}
	return m
}

func TestLack(t *testing.T) { // P10.2
	versions(func(version int) {
		for at, names := range musts(version) {
			for set := 1; set < 1<<len(names); set++ {
				first, all := "", []string{}
				for i, name := range names {
					if set&(1<<i) != 0 {
						all = append(all, join(at, name))
						if first == "" {
							first = name
						}
					}
				}
				wantCheck(t, version, change(version, cut(all...)), api.ErrLack, join(at, first))
			}
			// None of them, in an item that has nothing.
			wantCheck(t, version, change(version, put(at, func(n *api.Node) { n.Kids = nil })), api.ErrLack, join(at, names[0]))
		}
		for _, at := range []string{"system", "port[a]/up"} {
			wantCheck(t, version, change(version, cut(at)), api.OK, "")
		}
	})
	wantCheck(t, 2, change(2, cut("port[a]/kind")), api.OK, "")
	wantCheck(t, 3, change(3, cut("port[a]/kind")), api.OK, "")
	wantCheck(t, 3, change(3, cut("wait")), api.OK, "")
}

func TestLackOrder(t *testing.T) { // P10.2
	versions(func(version int) {
		none := api.Val{}
		for _, c := range []struct {
			n    api.Node
			want api.Errno
			at   string
		}{
			// A leaf that lacks comes after all kids of its own box, whatever they are.
			{change(version, cut("port[a]/class[gold]/burst"), val("port[a]/class[gold]/rate", none)), api.ErrValue, "port[a]/class[gold]/rate"},
			{change(version, cut("port[a]/class[gold]/burst"), add("port[a]/class[gold]", num("z", 1))), api.ErrName, "port[a]/class[gold]/z"},
			{change(version, cut("port[a]/default"), val("port[a]/up", none)), api.ErrValue, "port[a]/up"},
			{change(version, cut("port[a]/default"), val("port[a]/rule[s]/low", none)), api.ErrValue, "port[a]/rule[s]/low"},
			{change(version, cut("port[a]/default", "port[a]/rule[s]/low")), api.ErrLack, "port[a]/rule[s]/low"},
			{change(version, cut("port[a]/default", "port[a]/class[be]/rate")), api.ErrLack, "port[a]/class[be]/rate"},
			{change(version, cut("port[a]/default"), add("port[a]", box("z"))), api.ErrName, "port[a]/z"},
			{change(version, cut("port[a]/default"), add("port[a]", ref("default[k]", "be"))), api.ErrValue, "port[a]/default[k]"},
			// And ahead of the kids of the box around.
			{change(version, cut("port[a]/class[gold]/burst"), val("port[a]/class[idle]/rate", none)), api.ErrLack, "port[a]/class[gold]/burst"},
			{change(version, cut("port[a]/class[gold]/burst"), val("port[a]/class[be]/rate", none)), api.ErrValue, "port[a]/class[be]/rate"},
			{change(version, cut("port[a]/class[gold]/burst"), val("port[a]/default", none)), api.ErrLack, "port[a]/class[gold]/burst"},
			{change(version, cut("port[a]/default"), val("system", none)), api.ErrLack, "port[a]/default"},
			{change(version, cut("port[a]/default"), val("port[b]/default", none)), api.ErrLack, "port[a]/default"},
			{change(version, cut("port[b]/default"), val("port[a]/default", none)), api.ErrValue, "port[a]/default"},
			{change(version, cut("port[a]/default", "port[b]/default")), api.ErrLack, "port[a]/default"},
			{change(version, cut("port[b]/default"), add("", box("a"))), api.ErrName, "a"},
			{change(version, cut("port[b]/default"), add("", box("q"))), api.ErrLack, "port[b]/default"},
			// The first kid that is at fault, in the tree's order, not the schema's.
			{change(version, val("port[a]/class[gold]/burst", none), val("port[a]/class[gold]/quantum", none)), api.ErrValue, "port[a]/class[gold]/burst"},
			{change(version, val("port[a]/up", none), val("port[a]/default", none)), api.ErrValue, "port[a]/default"},
			{change(version, val("system", none), val("port[b]/default", none)), api.ErrValue, "port[b]/default"},
			{change(version, add("", box("a"), box("b"), box("z"))), api.ErrName, "a"},
			// Refs come after all else.
			{change(version, val("port[a]/default", api.Val{Kind: api.Ref, Text: "no"}), val("system", none)), api.ErrValue, "system"},
			{change(version, val("port[a]/default", api.Val{Kind: api.Ref, Text: "no"}), cut("port[b]/default")), api.ErrLack, "port[b]/default"},
			{change(version, val("port[a]/default", api.Val{Kind: api.Ref, Text: "no"}), add("", box("z"))), api.ErrName, "z"},
			{change(version, val("port[a]/default", api.Val{Kind: api.Ref, Text: "no"})), api.ErrRef, "port[a]/default"},
		} {
			wantCheck(t, version, c.n, c.want, c.at)
		}
	})
}

func TestRefs(t *testing.T) { // P10.3
	c := func(key string, kids ...api.Node) api.Node { return box("class["+key+"]", kids...) }
	r := func(key string, kids ...api.Node) api.Node { return box("rule["+key+"]", kids...) }
	p := func(kids ...api.Node) api.Node { return box("", box("port[a]", kids...)) }
	for _, x := range []struct {
		n    api.Node
		want api.Errno
		at   string
	}{
		{api.Node{}, api.OK, ""},
		{box("x", box("y"), ref("default", "no")), api.OK, ""},
		{box("", box("Port[a]", ref("default", "no")), box("ports[a]", ref("default", "no")), box("", ref("default", "no"))), api.OK, ""},
		{p(), api.OK, ""},
		{p(c("x")), api.OK, ""},
		{p(ref("default", "x")), api.ErrRef, "port[a]/default"},
		{p(c("x"), ref("default", "x")), api.OK, ""},
		{p(ref("default", "x"), c("x")), api.OK, ""},
		{p(c("x"), ref("default", "y")), api.ErrRef, "port[a]/default"},
		{p(c("x"), c("y"), c("z"), ref("default", "z")), api.OK, ""},
		{p(c("x"), ref("default", "X")), api.ErrRef, "port[a]/default"},
		{p(c("x"), ref("default", "xx")), api.ErrRef, "port[a]/default"},
		{p(c("xx"), ref("default", "x")), api.ErrRef, "port[a]/default"},
		{p(c("é\xff"), ref("default", "é\xff")), api.OK, ""},
		// A rule's class.
		{p(r("r")), api.OK, ""},
		{p(r("r", ref("class", "x"))), api.ErrRef, "port[a]/rule[r]/class"},
		{p(c("x"), r("r", ref("class", "x"))), api.OK, ""},
		{p(c("x"), r("r", ref("class", "y"))), api.ErrRef, "port[a]/rule[r]/class"},
		{p(c("x"), r("r", c("y"), ref("class", "y"))), api.ErrRef, "port[a]/rule[r]/class"},
		{p(c("x"), r("r", ref("class", "x")), r("s", ref("class", "y")), r("t", ref("class", "z"))), api.ErrRef, "port[a]/rule[s]/class"},
		{p(c("x"), r("t", ref("class", "z")), r("s", ref("class", "y"))), api.ErrRef, "port[a]/rule[t]/class"},
		{p(c("x"), r("r"), r("s", ref("class", "y"))), api.ErrRef, "port[a]/rule[s]/class"},
		{p(c("x"), r("", ref("class", "y"))), api.ErrRef, "port[a]/rule/class"},
		{p(c("x"), r("r", ref("class", "x")), r("r", ref("class", "y"))), api.ErrRef, "port[a]/rule[r]/class"},
		{p(c("x"), r("r", ref("classes", "y"), ref("default", "y"))), api.OK, ""},
		{p(c("x"), box("Rule[r]", ref("class", "y")), box("rules", ref("class", "y"))), api.OK, ""},
		// default stands ahead of rules, wherever it is.
		{p(r("r", ref("class", "y")), ref("default", "z")), api.ErrRef, "port[a]/default"},
		{p(c("z"), r("r", ref("class", "y")), ref("default", "z")), api.ErrRef, "port[a]/rule[r]/class"},
		// A class with an empty key is the one that an empty text names; a leaf may be a class, and what has no value names the empty text.
		{p(box("default")), api.ErrRef, "port[a]/default"},
		{p(c(""), box("default")), api.OK, ""},
		{p(c("a"), box("default", box("class[x]"))), api.ErrRef, "port[a]/default"},
		{p(num("class", 1), ref("default", "")), api.OK, ""},
		{p(num("class[x]", 1), ref("default", "x")), api.OK, ""},
		{p(c("x"), num("default", 7)), api.ErrRef, "port[a]/default"},
		{p(c("x"), box("default", num("x", 1))), api.ErrRef, "port[a]/default"},
		{p(c("x"), with(box("default"), api.None, 0, "x")), api.OK, ""},
		{p(c("x"), with(box("default", num("y", 1)), api.Uint, 9, "x")), api.OK, ""},
		{p(c("x"), with(box("default"), api.Enum, 0, "y")), api.ErrRef, "port[a]/default"},
		{p(c("x"), r("r", with(box("class"), -4, 1, "x"))), api.OK, ""},
		{p(c("x"), r("r", box("class"))), api.ErrRef, "port[a]/rule[r]/class"},
		// Its key, not its text.
		{p(ref("class[x]", "y"), ref("default", "y")), api.ErrRef, "port[a]/default"},
		{p(ref("class[x]", "y"), ref("default", "x")), api.OK, ""},
		{p(ref("class", "y"), ref("default", "y")), api.ErrRef, "port[a]/default"},
		// Of several, the first one without a key counts.
		{p(c("x"), ref("default[k]", "no"), ref("default", "x"), ref("default", "no")), api.OK, ""},
		{p(c("x"), ref("default[k]", "x"), ref("default", "no"), ref("default", "x")), api.ErrRef, "port[a]/default"},
		{p(c("x"), ref("default[k]", "no")), api.OK, ""},
		{p(c("x"), r("r", ref("class[k]", "no"), ref("class", "x"), ref("class", "no"))), api.OK, ""},
		{p(c("x"), r("r", ref("class[k]", "x"), ref("class", "no"), ref("class", "x"))), api.ErrRef, "port[a]/rule[r]/class"},
		{p(c("x"), r("r", ref("class[k]", "no"))), api.OK, ""},
		// Only a port's own classes count.
		{box("", box("port[a]", c("x")), box("port[b]", c("y"), ref("default", "x"))), api.ErrRef, "port[b]/default"},
		{box("", box("port[a]", c("x")), box("port[b]", c("y"), r("r", ref("class", "x")))), api.ErrRef, "port[b]/rule[r]/class"},
		{box("", c("x"), box("port[b]", ref("default", "x"))), api.ErrRef, "port[b]/default"},
		{box("", box("port[b]", box("port[a]", ref("default", "x")))), api.OK, ""},
		{box("", box("port[b]", box("x", ref("default", "x")))), api.OK, ""},
		{p(box("classes[x]"), box("Class[x]"), box("x", c("x")), ref("default", "x")), api.ErrRef, "port[a]/default"},
		// Several ports.
		{box("", box("port[a]", c("x"), ref("default", "x")), box("port[b]"), box("port[c]", ref("default", "x"))), api.ErrRef, "port[c]/default"},
		{box("", box("port[c]", ref("default", "y")), box("port[a]", ref("default", "x"))), api.ErrRef, "port[c]/default"},
		{box("", box("port[a]", c("x"), r("r", ref("class", "y"))), box("port[b]", ref("default", "x"))), api.ErrRef, "port[a]/rule[r]/class"},
		{box("", box("port[a]", c("x")), box("port[a]", c("y"), ref("default", "x"))), api.ErrRef, "port[a]/default"},
		{box("", box("port", ref("default", "x"))), api.ErrRef, "port/default"},
		{box("", with(box("port[A b]", ref("default", "x")), api.Uint, 1, "t")), api.ErrRef, "port[A b]/default"},
		{box("", box("a", ref("default", "x")), box("port[a]", ref("default", "x")), box("z")), api.ErrRef, "port[a]/default"},
		// Whatever the root itself is.
		{with(box("port[p]", ref("default", "x"), c("y")), api.Uint, 1, ""), api.OK, ""},
		{with(box("port[p]", box("port[q]", ref("default", "x"))), api.Uint, 1, "x"), api.ErrRef, "port[q]/default"},
	} {
		wantRefs(t, x.n, x.want, x.at)
	}
}

func TestRefsBesideCheck(t *testing.T) { // P10.1, P10.3
	versions(func(version int) {
		to := func(at, text string) func(*api.Node) { return val(at, api.Val{Kind: api.Ref, Text: text}) }
		for _, x := range []struct {
			n  api.Node
			at string
		}{
			{change(version, to("port[a]/default", "x")), "port[a]/default"},
			{change(version, to("port[b]/default", "be")), "port[b]/default"},
			{change(version, to("port[a]/rule[s]/class", "s")), "port[a]/rule[s]/class"},
			{change(version, to("port[a]/rule[s]/class", "x"), to("port[a]/rule[r]/class", "x")), "port[a]/rule[r]/class"},
			{change(version, to("port[a]/rule[r]/class", "x"), to("port[a]/default", "x")), "port[a]/default"},
			{change(version, to("port[b]/default", "y"), to("port[a]/rule[s]/class", "x")), "port[a]/rule[s]/class"},
			{change(version, cut("port[a]/class[gold]")), "port[a]/rule[r]/class"},
			{change(version, cut("port[a]/class[be]")), "port[a]/default"},
			{change(version, cut("port[b]/class[x]")), "port[b]/default"},
			{change(version, key("port[a]/class[gold]", "silver")), "port[a]/rule[r]/class"},
		} {
			wantCheck(t, version, x.n, api.ErrRef, x.at)
			wantRefs(t, x.n, api.ErrRef, x.at)
		}
		wantRefs(t, full(version), api.OK, "")
	})
}

// fault is what is wrong somewhere.
type fault struct {
	err api.Errno
	way []api.Step
}

// faults is all problems inside a node, as the chapter has them, one after another.
func faults(s spec.Spec, n api.Node, at []api.Step) []fault {
	var l []fault
	had := map[string]int{}
	for _, kid := range n.Kids {
		w := append(slices.Clip(at), api.Step{Name: kid.Name, Key: kid.Key})
		k := slices.IndexFunc(s.Kids, func(x spec.Spec) bool { return x.Name == kid.Name })
		if k < 0 {
			l = append(l, fault{api.ErrName, w})
			continue
		}
		is := s.Kids[k]
		switch is.Kind {
		case spec.Leaf:
			if kid.Key != "" || len(kid.Kids) > 0 || !value.Right(is, kid.Val) {
				l = append(l, fault{api.ErrValue, w})
			}
		case spec.List:
			if kid.Val.Kind != api.None || !scalar.Ident(kid.Key) {
				l = append(l, fault{api.ErrValue, w})
			}
			if had[kid.Name] >= is.Most {
				l = append(l, fault{api.ErrMany, w})
			}
			l = append(l, faults(is, kid, w)...)
		}
		had[kid.Name]++
	}
	for _, is := range s.Kids {
		if is.Must && had[is.Name] == 0 {
			return append(l, fault{api.ErrLack, append(slices.Clip(at), api.Step{Name: is.Name})})
		}
	}
	return l
}

// lost is all that refers to a class that there isn't.
func lost(n api.Node) []fault {
	var l []fault
	look := func(port, in api.Node, name string, at ...api.Step) {
		i := slices.IndexFunc(in.Kids, func(kid api.Node) bool { return kid.Name == name && kid.Key == "" })
		if i < 0 {
			return
		}
		if !slices.ContainsFunc(port.Kids, func(c api.Node) bool { return c.Name == "class" && c.Key == in.Kids[i].Val.Text }) {
			l = append(l, fault{api.ErrRef, append(at, api.Step{Name: name})})
		}
	}
	for _, port := range n.Kids {
		if port.Name == "port" {
			s := api.Step{Name: "port", Key: port.Key}
			look(port, port, "default", s)
			for _, r := range port.Kids {
				if r.Name == "rule" {
					look(port, r, "class", s, api.Step{Name: "rule", Key: r.Key})
				}
			}
		}
	}
	return l
}

// model is what Check answers.
func model(version int, n api.Node) fault {
	root, err := spec.Root(version)
	if err != api.OK {
		return fault{err, nil}
	}
	if !tree.Right(n) || n.Name != "" || n.Key != "" || n.Val != (api.Val{}) {
		return fault{api.ErrArg, nil}
	}
	return append(append(faults(root, n, nil), lost(n)...), fault{})[0]
}

func wantModel(t *testing.T, version int, n api.Node) api.Errno {
	t.Helper()
	f := model(version, n)
	wantCheckWay(t, version, n, f.err, f.way)
	l := append(lost(n), fault{})
	wantRefsWay(t, n, l[0].err, l[0].way)
	return f.err
}

// spots is all nodes of a tree, where they stand.
func spots(n *api.Node) []*api.Node {
	l := []*api.Node{n}
	for i := range n.Kids {
		l = append(l, spots(&n.Kids[i])...)
	}
	return l
}

// vary makes one change somewhere in a tree.
func vary(r *rand.Rand, version int, n *api.Node) {
	all := spots(n)
	at := all[r.Intn(len(all))]
	names := words()
	values := []api.Val{{}, {Kind: api.Uint, Num: 1}, {Kind: api.Uint, Num: 1500}, {Kind: api.Uint, Num: 70000}, {Kind: api.Rate, Num: 1}, {Kind: api.Rate, Num: 1 << 40}, {Kind: api.Bool, Num: 1}, {Kind: api.Bool, Num: 2}, {Kind: api.Enum, Text: "lab"}, {Kind: api.Ident, Text: "x"}, {Kind: api.Ref, Text: "be"}, {Kind: api.Ref, Text: "gold"}, {Kind: api.Ref, Text: "no"}, {Kind: api.Ref, Text: "No"}}
	keys := []string{"", "a", "b", "be", "gold", "x", "A", "aaaaaaaaaaaaa"}
	switch r.Intn(10) {
	case 0:
		at.Name = names[r.Intn(len(names))]
	case 1:
		at.Key = keys[r.Intn(len(keys))]
	case 2, 3:
		at.Val = values[r.Intn(len(values))]
	case 4, 5:
		if len(at.Kids) > 0 {
			i := r.Intn(len(at.Kids))
			at.Kids = slices.Delete(at.Kids, i, i+1)
		}
	case 6:
		other := *all[r.Intn(len(all))]
		if tree.Size(*n) < 300 {
			at.Kids = append(at.Kids, tree.Sorted(other))
		}
	case 7:
		at.Kids = append(at.Kids, with(box(names[r.Intn(len(names))]), r.Intn(8), uint64(r.Intn(2000)), ""))
	case 8:
		if r.Intn(2) == 0 {
			slices.Reverse(at.Kids)
		}
	case 9:
		if at.Key != "" {
			at.Key += strconv.Itoa(r.Intn(3))
		}
	}
}

func TestManyTrees(t *testing.T) { // P10.1, P10.2, P10.3
	r := rand.New(rand.NewSource(1))
	seen := map[api.Errno]int{}
	for range 2000 {
		version := 1 + r.Intn(3)
		n := full(version)
		for range 1 + r.Intn(12) {
			vary(r, version, &n)
			seen[wantModel(t, version, n)]++
			if r.Intn(2) == 0 {
				n = tree.Sorted(n)
			}
			seen[wantModel(t, version, n)]++
			seen[wantModel(t, 1+r.Intn(3), n)]++
		}
		if t.Failed() {
			return
		}
	}
	for _, err := range []api.Errno{api.OK, api.ErrArg, api.ErrName, api.ErrValue, api.ErrLack, api.ErrRef} {
		if seen[err] < 20 {
			t.Errorf("error %d was seen only %d times", err, seen[err])
		}
	}
}

// singles is all trees that come from one by a single change of a small set at one place.
func singles(version int) []api.Node {
	var l []api.Node
	for i := range spots(new(full(version))) {
		for _, c := range []func(n *api.Node){
			func(n *api.Node) { n.Key = "zz" },
			func(n *api.Node) { n.Key = "" },
			func(n *api.Node) { n.Name += "s" },
			func(n *api.Node) { n.Val = api.Val{} },
			func(n *api.Node) { n.Val.Num = 1 << 50 },
			func(n *api.Node) { n.Val.Text = "none" },
			func(n *api.Node) { n.Val.Kind++ },
			func(n *api.Node) { n.Kids = nil },
			func(n *api.Node) { n.Kids = append(n.Kids, box("zz[zz]")) },
			func(n *api.Node) { n.Kids = slices.Concat([]api.Node{num("a", 1)}, n.Kids) },
		} {
			n := full(version)
			c(spots(&n)[i])
			l = append(l, n)
		}
	}
	return l
}

func TestSingles(t *testing.T) { // P10.1, P10.2, P10.3
	versions(func(version int) {
		for _, n := range singles(version) {
			for v := 0; v <= 4; v++ {
				wantModel(t, v, n)
				wantModel(t, v, tree.Sorted(n))
			}
		}
	})
}

// TestPairs has two faults in one tree, each pair of places, so that their order is to be seen.
func TestPairs(t *testing.T) { // P10.1, P10.2
	changes := []func(n *api.Node){
		func(n *api.Node) { n.Val = api.Val{} },
		func(n *api.Node) { n.Val.Text = "none" },
		func(n *api.Node) { n.Key += "z" },
		func(n *api.Node) { n.Name = "class" },
		func(n *api.Node) { n.Kids = nil },
	}
	count := len(spots(new(full(2))))
	for i := range count {
		for j := range count {
			for k := range changes {
				n := full(2)
				l := spots(&n)
				changes[(i+j)%len(changes)](l[j])
				changes[k](l[i])
				wantModel(t, 2, tree.Sorted(n))
			}
		}
	}
}

// needed tells what is wrong with full without the node at a way.
func needed(version int, at string) (api.Errno, string) {
	switch at {
	case "port[a]/class[be]":
		return api.ErrRef, "port[a]/default"
	case "port[a]/class[gold]":
		return api.ErrRef, "port[a]/rule[r]/class"
	case "port[b]/class[x]":
		return api.ErrRef, "port[b]/default"
	}
	last := at[strings.LastIndex(at, "/")+1:]
	if slices.Contains(strings.Fields("quantum rate burst shaped low high class default "+limit(version)), last) {
		return api.ErrLack, at
	}
	return api.OK, ""
}

func TestRemoved(t *testing.T) { // P10.4
	versions(func(version int) {
		count := 0
		var walk func(n api.Node, at string)
		walk = func(n api.Node, at string) {
			for _, kid := range n.Kids {
				s := kid.Name
				if kid.Key != "" {
					s += "[" + kid.Key + "]"
				}
				s = join(at, s)
				want, where := needed(version, s)
				cut, err := tree.Cut(full(version), way(s))
				if err != api.OK {
					t.Fatal(s, err)
				}
				wantCheck(t, version, cut, want, where)
				count++
				walk(kid, s)
			}
		}
		walk(full(version), "")
		if count != tree.Size(full(version))-1 {
			t.Error(version, count)
		}
	})
}

// TestRemovedAll takes nodes out of valid trees one by one, in any order, as long as they may go: nothing but what is needed is left.
func TestRemovedAll(t *testing.T) { // P10.4
	r := rand.New(rand.NewSource(2))
	versions(func(version int) {
		for range 30 {
			n := full(version)
			for tree.Size(n) > 1 {
				var may []api.Node
				for _, w := range allWays(n, nil) {
					cut, err := tree.Cut(n, w)
					if err != api.OK {
						t.Fatal(showWay(w), err)
					}
					if wantModel(t, version, cut) == api.OK {
						may = append(may, cut)
					}
				}
				if len(may) == 0 {
					t.Fatalf("nothing of %s may go", show(n))
				}
				n = may[r.Intn(len(may))]
			}
		}
	})
}

// allWays is the ways to all nodes of a tree but its root.
func allWays(n api.Node, at []api.Step) [][]api.Step {
	var l [][]api.Step
	for _, kid := range n.Kids {
		w := append(slices.Clip(at), api.Step{Name: kid.Name, Key: kid.Key})
		l = append(append(l, w), allWays(kid, w)...)
	}
	return l
}

// roomy is a copy of a tree, whose lists have room behind them, with something in it.
func roomy(n api.Node) api.Node {
	kids := make([]api.Node, len(n.Kids), len(n.Kids)+3)
	for i, kid := range n.Kids {
		kids[i] = roomy(kid)
	}
	for i := len(kids); i < cap(kids); i++ {
		kids[:cap(kids)][i] = num("spare", uint64(i))
	}
	n.Kids = kids
	return n
}

// image is a tree with all that is in its lists' rooms.
func image(n api.Node) string {
	s := show(api.Node{Name: n.Name, Key: n.Key, Val: n.Val}) + "(" + strconv.Itoa(len(n.Kids)) + ":"
	for _, kid := range n.Kids[:cap(n.Kids)] {
		s += image(kid) + " "
	}
	return s + ")"
}

func TestArguments(t *testing.T) { // P10.1, P10.3
	versions(func(version int) {
		for _, n := range append(singles(version), full(version), crowd(version, 5, 9, 17)) {
			n = roomy(n)
			before := image(n)
			valid.Check(version, n)
			valid.May(version, n)
			valid.Refs(n)
			if image(n) != before {
				t.Errorf("%s was changed", show(n))
			}
		}
	})
}

func TestNewMemory(t *testing.T) { // P10.1, P10.3
	versions(func(version int) {
		for _, n := range append(singles(version), box("", box("port[a]", ref("default", "x")))) {
			n = roomy(n)
			before := image(n)
			for _, call := range []func() []api.Step{
				func() []api.Step { _, w := valid.Check(version, n); return w },
				func() []api.Step { _, w := valid.Refs(n); return w },
			} {
				first := call()
				want := slices.Clone(first)
				second := call()
				for i := range first[:cap(first)] {
					first[:cap(first)][i] = api.Step{Name: "spoilt", Key: "k"}
				}
				if third := call(); !slices.Equal(second, want) || !slices.Equal(third, want) {
					t.Errorf("%s: %s, then %s, not %s", show(n), showWay(second), showWay(third), showWay(want))
				}
			}
			if image(n) != before {
				t.Errorf("%s was changed by what was written into a path", show(n))
			}
		}
	})
}

// deep is a tree that many levels deep, each of which has one kid.
func deep(name string, depth int) api.Node {
	n := box(name + "[k]")
	for range depth {
		n = box(name+"[k]", n)
	}
	return n
}

func TestDepth(t *testing.T) { // P10.1, P10.3
	for _, name := range []string{"port", "class", "x"} {
		n := deep(name, 1<<16-2)
		versions(func(version int) {
			wantModelTop(t, version, n, name)
		})
	}
	n := box("", box("port[a]", box("default", deep("x", 1<<16-4))))
	wantRefs(t, n, api.ErrRef, "port[a]/default")
	wantCheck(t, 1, n, api.ErrValue, "port[a]/default")
}

func wantModelTop(t *testing.T, version int, n api.Node, name string) {
	t.Helper()
	if err, w := valid.Check(version, n); err != api.ErrArg || w != nil {
		t.Error(err, showWay(w))
	}
	n = api.Node{Kids: []api.Node{n}}
	want, at := api.ErrName, name+"[k]"
	if name == "port" {
		at = "port[k]/port[k]"
	}
	if err, w := valid.Check(version, n); err != want || !slices.Equal(w, way(at)) {
		t.Error(err, showWay(w))
	}
	if err, w := valid.Refs(n); err != api.OK || w != nil {
		t.Error(err, showWay(w))
	}
}

func TestWidth(t *testing.T) { // P10.1, P10.3
	const many = 1 << 15
	port := box("port[a]")
	for i := range many {
		s := strconv.Itoa(100000 + i)
		port.Kids = append(port.Kids, box("class[c"+s+"]"), box("rule[r"+s+"]", ref("class", "c"+s)))
	}
	port = tree.Sorted(port)
	n := box("", port)
	wantRefs(t, n, api.OK, "")
	last := &n.Kids[0].Kids[2*many-1]
	last.Kids[0].Val.Text = "no"
	wantRefs(t, n, api.ErrRef, "port[a]/rule["+last.Key+"]/class")
	wantCheck(t, 3, n, api.ErrLack, "port[a]/class[c100000]/quantum")
}

// TestTwice: what is answered hangs on nothing but what is given.
func TestTwice(t *testing.T) { // P10.1, P10.3
	versions(func(version int) {
		for _, n := range singles(version) {
			f := model(version, n)
			for range 3 {
				wantCheckWay(t, version, n, f.err, f.way)
				valid.Refs(full(2))
				valid.May(0, n)
			}
		}
	})
}
