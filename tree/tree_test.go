package tree_test

import (
	"bytes"
	"math"
	"math/rand"
	"reflect"
	"slices"
	"strconv"
	"strings"
	"testing"

	"tollbar/api"
	"tollbar/tree"
)

// The calls of the chapter, with just these signatures.
var (
	_ func(a, b api.Node) bool                                   = tree.Less
	_ func(api.Node) bool                                        = tree.Right
	_ func(a, b api.Node) bool                                   = tree.Same
	_ func(api.Node) int                                         = tree.Size
	_ func(api.Node, []api.Step) (api.Node, bool)                = tree.Get
	_ func(api.Node, []api.Step, api.Node) (api.Node, api.Errno) = tree.Set
	_ func(api.Node, []api.Step) (api.Node, api.Errno)           = tree.Cut
	_ func(api.Node) api.Node                                    = tree.Sorted
)

// step is the step of a short text: a name, or a name and a key in brackets.
func step(s string) api.Step {
	name, key, _ := strings.Cut(strings.TrimSuffix(s, "]"), "[")
	return api.Step{Name: name, Key: key}
}

// way is the steps of short texts.
func way(steps ...string) []api.Step {
	var l []api.Step
	for _, s := range steps {
		l = append(l, step(s))
	}
	return l
}

// box is a node that is no leaf, leaf one that is.
func box(s string, kids ...api.Node) api.Node {
	return api.Node{Name: step(s).Name, Key: step(s).Key, Kids: kids}
}

func leaf(s string, num uint64) api.Node {
	return api.Node{Name: step(s).Name, Key: step(s).Key, Val: api.Val{Kind: api.Uint, Num: num}}
}

func with(n api.Node, v api.Val) api.Node {
	n.Val = v
	return n
}

func text(s, of string) api.Node {
	return with(box(s), api.Val{Kind: api.Ref, Text: of})
}

// example is a tree of several levels, made anew for each call.
func example() api.Node {
	return box("",
		box("port[a]",
			box("class[be]", leaf("burst", 3000), leaf("depth", 8), leaf("quantum", 1500), leaf("rate", 1000), leaf("shaped", 1)),
			box("class[gold]", leaf("burst", 3000), leaf("depth", 4), leaf("quantum", 3000), leaf("rate", 0), leaf("shaped", 0)),
			text("default", "be"),
			box("rule[r]", text("class", "gold"), leaf("high", 19), leaf("low", 10))),
		box("port[b]", box("class[x]"), text("default", "x")),
		text("system", "s"))
}

// entry is a node as one of a list: the way to it, its own step, and its value.
type entry struct {
	way  []api.Step
	step api.Step
	val  api.Val
}

// entries is all nodes of a tree, each ahead of its kids, whose ways begin with one.
func entries(n api.Node, start ...api.Step) []entry {
	l := []entry{{slices.Concat([]api.Step{}, start), api.Step{Name: n.Name, Key: n.Key}, n.Val}}
	for _, kid := range n.Kids {
		l = append(l, entries(kid, append(slices.Clip(start), api.Step{Name: kid.Name, Key: kid.Key})...)...)
	}
	return l
}

// under is an entry of a tree whose ways begin with some more steps.
func under(l []entry, start []api.Step) []entry {
	var r []entry
	for _, e := range l {
		e.way = slices.Concat([]api.Step{}, start, e.way)
		r = append(r, e)
	}
	return r
}

// behind is the place behind the node at a place, and all that is within it.
func behind(l []entry, at int) int {
	end := at + 1
	for end < len(l) && len(l[end].way) > len(l[at].way) {
		end++
	}
	return end
}

// compare holds two steps against each other, byte by byte.
func compare(a, b api.Step) int {
	if c := bytes.Compare([]byte(a.Name), []byte(b.Name)); c != 0 {
		return c
	}
	return bytes.Compare([]byte(a.Key), []byte(b.Key))
}

// found is the place of the node at a way; below 0: there is none.
func found(l []entry, w []api.Step) int {
	at := 0
	for depth, s := range w {
		next := -1
		for i := behind(l, at) - 1; i > at; i-- {
			if len(l[i].way) == depth+1 && l[i].step == s {
				next = i
			}
		}
		if next < 0 {
			return -1
		}
		at = next
	}
	return at
}

// rightly tells what the chapter says of Right.
func rightly(l []entry) bool {
	for i, e := range l {
		last := -1
		for j := i + 1; j < behind(l, i); j++ {
			if len(l[j].way) != len(e.way)+1 {
				continue
			}
			if last >= 0 && compare(l[last].step, l[j].step) >= 0 {
				return false
			}
			last = j
		}
		if e.val.Kind != 0 && last >= 0 || e.val.Kind == 0 && (e.val.Num != 0 || e.val.Text != "") {
			return false
		}
	}
	return true
}

// got is what the chapter says of Get.
func got(l []entry, w []api.Step) ([]entry, bool) {
	at := found(l, w)
	if at < 0 {
		return entries(api.Node{}), false
	}
	var r []entry
	for _, e := range l[at:behind(l, at)] {
		e.way = slices.Concat([]api.Step{}, e.way[len(w):])
		r = append(r, e)
	}
	return r, true
}

// set is what the chapter says of Set, for a tree that is right.
func set(l []entry, w []api.Step, x []entry) ([]entry, api.Errno) {
	if len(w) == 0 || x[0].step != w[len(w)-1] {
		return entries(api.Node{}), api.ErrArg
	}
	parent := found(l, w[:len(w)-1])
	if parent < 0 || l[parent].val.Kind != 0 {
		return entries(api.Node{}), api.NoPath
	}
	at := found(l, w)
	if at >= 0 {
		return slices.Concat(l[:at], under(x, w), l[behind(l, at):]), api.OK
	}
	for at = parent + 1; at < behind(l, parent); at = behind(l, at) {
		if compare(l[at].step, x[0].step) > 0 {
			break
		}
	}
	return slices.Concat(l[:at], under(x, w), l[at:]), api.OK
}

// cut is what the chapter says of Cut, for a tree that is right.
func cut(l []entry, w []api.Step) ([]entry, api.Errno) {
	at := found(l, w)
	if at < 0 || len(w) == 0 {
		return entries(api.Node{}), api.NoPath
	}
	return slices.Concat(l[:at], l[behind(l, at):]), api.OK
}

// sorted is what the chapter says of Sorted: each kid stands behind those that stood ahead of it and are not greater.
func sorted(n api.Node) api.Node {
	var kids []api.Node
	for _, kid := range n.Kids {
		kid = sorted(kid)
		at := len(kids)
		for at > 0 && compare(api.Step{Name: kids[at-1].Name, Key: kids[at-1].Key}, api.Step{Name: kid.Name, Key: kid.Key}) > 0 {
			at--
		}
		kids = slices.Insert(kids, at, kid)
	}
	n.Kids = kids
	return n
}

// equal tells whether two trees are the same, lists of no kids being equal.
func equal(a, b api.Node) bool { return reflect.DeepEqual(entries(a), entries(b)) }

// show is a tree as a short text.
func show(n api.Node) string {
	var b strings.Builder
	b.WriteString(strconv.Quote(n.Name))
	if n.Key != "" {
		b.WriteString("[" + strconv.Quote(n.Key) + "]")
	}
	if n.Val != (api.Val{}) {
		b.WriteString("=" + strconv.Itoa(n.Val.Kind) + "," + strconv.FormatUint(n.Val.Num, 10) + "," + strconv.Quote(n.Val.Text))
	}
	if len(n.Kids) > 0 {
		b.WriteString("{")
		for _, kid := range n.Kids {
			b.WriteString(show(kid) + ";")
		}
		b.WriteString("}")
	}
	return b.String()
}

// short is the beginning of a tree's text.
func short(n api.Node) string {
	s := show(n)
	return s[:min(len(s), 500)]
}

func wantLess(t *testing.T, a, b api.Node, want bool) {
	t.Helper()
	if is := tree.Less(a, b); is != want {
		t.Errorf("Less(%s, %s) = %v, want %v", short(a), short(b), is, want)
	}
}

func wantRight(t *testing.T, n api.Node, want bool) {
	t.Helper()
	if is := tree.Right(n); is != want {
		t.Errorf("Right(%s) = %v, want %v", short(n), is, want)
	}
}

// wantSame asks both ways round.
func wantSame(t *testing.T, a, b api.Node, want bool) {
	t.Helper()
	if is, turned := tree.Same(a, b), tree.Same(b, a); is != want || turned != want {
		t.Errorf("Same(%s, %s) = %v, turned round %v, want %v", short(a), short(b), is, turned, want)
	}
}

func wantSize(t *testing.T, n api.Node, want int) {
	t.Helper()
	if size := tree.Size(n); size != want {
		t.Errorf("Size(%s) = %d, want %d", short(n), size, want)
	}
}

func wantGet(t *testing.T, n api.Node, w []api.Step, want api.Node) {
	t.Helper()
	if x, ok := tree.Get(n, w); !ok || !equal(x, want) {
		t.Errorf("Get(%s, %q) = %s, %v, want %s", short(n), w, short(x), ok, short(want))
	}
}

func wantNoGet(t *testing.T, n api.Node, w []api.Step) {
	t.Helper()
	if x, ok := tree.Get(n, w); ok || !reflect.DeepEqual(x, api.Node{}) {
		t.Errorf("Get(%s, %q) = %#v, %v, want none", short(n), w, x, ok)
	}
}

func wantSet(t *testing.T, n api.Node, w []api.Step, x, want api.Node) {
	t.Helper()
	if r, err := tree.Set(n, w, x); err != api.OK || !equal(r, want) {
		t.Errorf("Set(%s, %q, %s) = %s, %v, want %s", short(n), w, short(x), short(r), err, short(want))
	}
}

func wantNoSet(t *testing.T, n api.Node, w []api.Step, x api.Node, want api.Errno) {
	t.Helper()
	if r, err := tree.Set(n, w, x); err != want || !reflect.DeepEqual(r, api.Node{}) {
		t.Errorf("Set(%s, %q, %s) = %#v, %v, want %v", short(n), w, short(x), r, err, want)
	}
}

func wantCut(t *testing.T, n api.Node, w []api.Step, want api.Node) {
	t.Helper()
	if r, err := tree.Cut(n, w); err != api.OK || !equal(r, want) {
		t.Errorf("Cut(%s, %q) = %s, %v, want %s", short(n), w, short(r), err, short(want))
	}
}

func wantNoCut(t *testing.T, n api.Node, w []api.Step) {
	t.Helper()
	if r, err := tree.Cut(n, w); err != api.NoPath || !reflect.DeepEqual(r, api.Node{}) {
		t.Errorf("Cut(%s, %q) = %#v, %v, want %v", short(n), w, r, err, api.NoPath)
	}
}

func wantSorted(t *testing.T, n, want api.Node) {
	t.Helper()
	if r := tree.Sorted(n); !equal(r, want) {
		t.Errorf("Sorted(%s) = %s, want %s", short(n), short(r), short(want))
	}
}

func TestExample(t *testing.T) { // P9.3
	n := box("", leaf("a", 1))
	n, err := tree.Set(n, way("b"), leaf("b", 2))
	if err != api.OK {
		t.Fatal(err)
	}
	wantCut(t, n, way("a"), box("", leaf("b", 2)))
}

// steps is some in increasing order, names and keys of which one is the beginning of the other, and bytes from 128 on among them.
var steps = []api.Step{
	{}, {Key: "\x00"}, {Key: "a"}, {Key: "\xff"}, {Name: "\x00"}, {Name: "-"}, {Name: "0"}, {Name: "9", Key: "z"}, {Name: "A"}, {Name: "Z", Key: "a"}, {Name: "Zz"},
	{Name: "a"}, {Name: "a", Key: "\x00"}, {Name: "a", Key: "0"}, {Name: "a", Key: "B"}, {Name: "a", Key: "b"}, {Name: "a", Key: "b\x00"}, {Name: "a", Key: "ba"}, {Name: "a", Key: "c"}, {Name: "a", Key: "\x7f"}, {Name: "a", Key: "\x80"}, {Name: "a", Key: "\xc3\xa4"}, {Name: "a", Key: "\xff"}, {Name: "a", Key: "\xff\xff"},
	{Name: "a\x00"}, {Name: "a-"}, {Name: "aa"}, {Name: "aa", Key: "a"}, {Name: "ab"}, {Name: "b"}, {Name: "b", Key: "a"}, {Name: "class", Key: "x"}, {Name: "class-1"}, {Name: "classes"}, {Name: "z"}, {Name: "\x7f"}, {Name: "\x80"}, {Name: "\x80", Key: "a"}, {Name: "\xc3\xa4"}, {Name: "\xe2\x82\xac"}, {Name: "\xff"}, {Name: "\xff", Key: "\xff"}, {Name: "\xff\x00"},
}

// vals is values, of Kinds that there are none of too, and such of no Kind.
var vals = []api.Val{
	{}, {Num: 1}, {Text: "a"}, {Num: math.MaxUint64, Text: "\xff"}, {Kind: api.Uint}, {Kind: api.Uint, Num: 1}, {Kind: api.Uint, Num: 1 << 32}, {Kind: api.Rate, Num: 1}, {Kind: api.Bool}, {Kind: api.Bool, Num: 1},
	{Kind: api.Enum, Text: "a"}, {Kind: api.Ident, Text: "a"}, {Kind: api.Ident, Text: "b"}, {Kind: api.Ref, Text: "a"}, {Kind: api.Ref, Text: "a", Num: 1}, {Kind: api.Ref + 1}, {Kind: 100}, {Kind: 256}, {Kind: math.MaxInt}, {Kind: -1}, {Kind: math.MinInt}, {Kind: -1, Num: 1, Text: "a"},
}

func TestLess(t *testing.T) { // P9.1
	for i, a := range steps {
		for j, b := range steps {
			wantLess(t, api.Node{Name: a.Name, Key: a.Key}, api.Node{Name: b.Name, Key: b.Key}, i < j)
		}
	}
}

// TestLessSteps holds that Less looks at nothing but the steps.
func TestLessSteps(t *testing.T) { // P9.1
	kids := [][]api.Node{nil, {}, {box("a")}, {box("b")}, {leaf("a", 1), leaf("b", 2)}}
	for i, a := range steps[8:18] {
		for j, b := range steps[8:18] {
			for _, v := range vals {
				for _, k := range kids {
					full := api.Node{Name: a.Name, Key: a.Key, Val: v, Kids: k}
					bare := api.Node{Name: b.Name, Key: b.Key}
					wantLess(t, full, bare, i < j)
					wantLess(t, bare, full, j < i)
					wantLess(t, full, api.Node{Name: b.Name, Key: b.Key, Val: api.Val{Kind: api.Bool, Num: 1}, Kids: kids[2]}, i < j)
				}
			}
		}
	}
}

// TestLessNames holds that names are looked at ahead of keys, and not the two as one text.
func TestLessNames(t *testing.T) { // P9.1
	for _, c := range []struct {
		a, b string
		want bool
	}{
		{"a[z]", "b[a]", true}, {"b[a]", "a[z]", false}, {"a[bc]", "ab[c]", true}, {"ab[c]", "a[bc]", false}, {"a", "a[a]", true}, {"a[a]", "a", false},
		{"a[b]", "a[b]", false}, {"a", "a", false}, {"", "", false}, {"port[10]", "port[9]", true}, {"B", "a", true}, {"a", "B", false}, {"a[B]", "a[a]", true},
	} {
		wantLess(t, box(c.a), box(c.b), c.want)
	}
}

func TestRightLeaves(t *testing.T) { // P9.1
	for _, v := range vals {
		n := api.Node{Name: "a", Val: v}
		is := v.Kind != api.None || v == api.Val{}
		wantRight(t, n, is)
		n.Kids = []api.Node{}
		wantRight(t, n, is)
		n.Kids = make([]api.Node, 0, 4)
		wantRight(t, n, is)
		for _, kids := range [][]api.Node{{{}}, {leaf("a", 1)}, {box("a")}, {leaf("a", 1), leaf("b", 2)}} {
			n.Kids = kids
			wantRight(t, n, v == api.Val{})
			wantRight(t, box("", n), v == api.Val{})
			wantRight(t, box("", box("a", box("a"), n)), false) // the step a twice
			wantRight(t, box("", box("a"), box("b", n)), v == api.Val{})
		}
	}
	for _, kind := range []int{1, 2, 3, 4, 5, 6, 7, 8, 100, 256, 1 << 32, math.MaxInt, -1, -6, -256, math.MinInt} {
		wantRight(t, api.Node{Val: api.Val{Kind: kind}}, true)
		wantRight(t, api.Node{Val: api.Val{Kind: kind, Num: 7, Text: "x"}}, true)
		wantRight(t, api.Node{Val: api.Val{Kind: kind}, Kids: []api.Node{}}, true)
		wantRight(t, api.Node{Val: api.Val{Kind: kind}, Kids: []api.Node{box("a")}}, false)
	}
	for _, v := range []api.Val{{Num: 1}, {Num: 1 << 63}, {Text: "a"}, {Text: "\x00"}, {Num: 1, Text: "a"}} {
		wantRight(t, with(box("a"), v), false)
		wantRight(t, with(box("a", leaf("b", 1)), v), false)
	}
}

func TestRightOrder(t *testing.T) { // P9.1
	wantRight(t, api.Node{}, true)
	wantRight(t, example(), true)
	var all []api.Node
	for _, s := range steps {
		all = append(all, api.Node{Name: s.Name, Key: s.Key})
	}
	wantRight(t, box("x", all...), true)
	for i := range all {
		for j := range all {
			wantRight(t, box("x", all[i], all[j]), i < j)
			for k := 0; k < len(all); k += 3 {
				wantRight(t, box("x", all[i], all[j], all[k]), i < j && j < k)
			}
			if i != j {
				wrong := slices.Clone(all)
				wrong[i], wrong[j] = wrong[j], wrong[i]
				wantRight(t, box("x", wrong...), false)
				wantRight(t, box("x", slices.Insert(slices.Clone(all), j, all[i])...), false)
			}
		}
		wantRight(t, box("x", slices.Delete(slices.Clone(all), i, i+1)...), true)
		wantRight(t, box("x", slices.Insert(slices.Clone(all), i, all[i])...), false)
	}
	wantRight(t, box("x", leaf("a", 1), box("a")), false)
	wantRight(t, box("x", leaf("a", 1), leaf("a", 2)), false)
	wantRight(t, box("x", box("a", leaf("b", 1)), box("a", leaf("c", 1))), false)
}

// deep is a tree in which a node stands at a depth, with kids ahead of it and behind it at each one.
func deep(n api.Node, depth, ahead, behind int) api.Node {
	for range depth {
		var kids []api.Node
		for i := range ahead {
			kids = append(kids, box("a["+strconv.Itoa(i)+"]", leaf("k", 1)))
		}
		n.Name, n.Key = "m", ""
		kids = append(kids, n)
		for i := range behind {
			kids = append(kids, leaf("z["+strconv.Itoa(i)+"]", 1))
		}
		n = box("", kids...)
	}
	return n
}

func TestRightDepths(t *testing.T) { // P9.1
	wrong := []api.Node{
		box("m", leaf("b", 1), leaf("a", 1)), box("m", leaf("a", 1), leaf("a", 1)), box("m", box("a", leaf("b", 1)), box("a", leaf("b", 1))),
		with(box("m"), api.Val{Num: 1}), with(box("m"), api.Val{Text: "a"}), with(box("m", leaf("a", 1)), api.Val{Kind: 1}), with(box("m", leaf("a", 1)), api.Val{Kind: -1}),
	}
	for depth := range 8 {
		for ahead := range 3 {
			for behind := range 3 {
				for _, n := range wrong {
					wantRight(t, deep(n, depth, ahead, behind), false)
				}
				wantRight(t, deep(box("m", leaf("a", 1), leaf("b", 1)), depth, ahead, behind), true)
				wantRight(t, deep(leaf("m", 1), depth, ahead, behind), true)
				wantRight(t, deep(api.Node{}, depth, ahead, behind), true)
			}
		}
	}
}

func TestSame(t *testing.T) { // P9.1
	wantSame(t, api.Node{}, api.Node{}, true)
	wantSame(t, example(), example(), true)
	for i, a := range steps {
		for j, b := range steps {
			wantSame(t, api.Node{Name: a.Name, Key: a.Key}, api.Node{Name: b.Name, Key: b.Key}, i == j)
		}
	}
	for i, a := range vals {
		for j, b := range vals {
			wantSame(t, with(box("a"), a), with(box("a"), b), i == j)
			wantSame(t, with(box("a", box("b")), a), with(box("a", box("b")), b), i == j)
		}
	}
	wantSame(t, box("a[bc]"), box("ab[c]"), false)
	wantSame(t, box("a[b]"), box("b[a]"), false)
	none := [][]api.Node{nil, {}, make([]api.Node, 0, 5)}
	for _, a := range none {
		for _, b := range none {
			wantSame(t, api.Node{Name: "a", Kids: a}, api.Node{Name: "a", Kids: b}, true)
			wantSame(t, box("", box("b", a...), leaf("c", 1)), box("", box("b", b...), leaf("c", 1)), true)
		}
		wantSame(t, api.Node{Name: "a", Kids: a}, box("a", api.Node{}), false)
	}
}

// others is trees that differ from one in one thing each.
func others(n api.Node) []api.Node {
	var l []api.Node
	for range 12 {
		l = append(l, n)
	}
	l[0].Name += "x"
	l[1].Name = "\x00" + n.Name
	l[2].Key += "x"
	l[3].Key += "\x00"
	l[4].Val.Kind++
	l[5].Val.Kind = -7
	l[6].Val.Num++
	l[7].Val.Num += 1 << 32
	l[8].Val.Text += "x"
	l[9].Val.Text += "\x00"
	l[10].Kids = append(slices.Clip(n.Kids), api.Node{})
	l[11].Kids = append([]api.Node{box("0")}, n.Kids...)
	if len(n.Kids) > 0 {
		l = append(l, n, n, n)
		l[12].Kids = n.Kids[1:]
		l[13].Kids = n.Kids[:len(n.Kids)-1]
		l[14].Kids = nil
	}
	if len(n.Kids) > 1 {
		turned := slices.Clone(n.Kids)
		slices.Reverse(turned)
		l = append(l, n, n)
		l[15].Kids = turned
		l[16].Kids = slices.Concat(n.Kids[1:], n.Kids[:1])
	}
	for i, kid := range n.Kids {
		for _, other := range others(kid) {
			kids := slices.Clone(n.Kids)
			kids[i] = other
			x := n
			x.Kids = kids
			l = append(l, x)
		}
	}
	return l
}

func TestSameOthers(t *testing.T) { // P9.1
	for _, n := range []api.Node{{}, leaf("a", 1), text("a[b]", "x"), box("a", leaf("b", 1)), box("a", leaf("b", 1), leaf("c", 1), leaf("d", 2)), example(), box("", leaf("b", 2), leaf("a", 1), leaf("b", 1), box("a", leaf("c", 1), leaf("c", 2)))} {
		wantSame(t, n, n, true)
		for _, other := range others(n) {
			wantSame(t, n, other, false)
			for depth := 1; depth < 4; depth++ {
				wantSame(t, deep(box("", n), depth, 1, 1), deep(box("", n), depth, 1, 1), true)
				wantSame(t, deep(box("", n), depth, 1, 1), deep(box("", other), depth, 1, 1), false)
				wantSame(t, deep(box("", n), depth, 1, 1), deep(box("", n), depth-1, 1, 1), false)
			}
		}
	}
}

func TestSize(t *testing.T) { // P9.1
	wantSize(t, api.Node{}, 1)
	wantSize(t, leaf("a", 1), 1)
	wantSize(t, text("a[b]", "c"), 1)
	wantSize(t, box("a"), 1)
	wantSize(t, api.Node{Kids: []api.Node{}}, 1)
	wantSize(t, api.Node{Kids: make([]api.Node, 0, 9)}, 1)
	wantSize(t, box("a", leaf("b", 1)), 2)
	wantSize(t, box("a", leaf("b", 1), leaf("b", 1), leaf("a", 1)), 4)
	wantSize(t, box("a", box("b", box("c", leaf("d", 1)))), 4)
	wantSize(t, box("a", box("b", leaf("c", 1), leaf("d", 1)), leaf("e", 1), box("f", box("g"))), 7)
	wantSize(t, with(box("a", box("b")), api.Val{Kind: 1}), 2)
	wantSize(t, example(), 23)
	for depth := range 8 {
		for ahead := range 3 {
			for behind := range 3 {
				wantSize(t, deep(leaf("m", 1), depth, ahead, behind), 1+depth*(1+2*ahead+behind))
			}
		}
	}
	for n := range 100 {
		wantSize(t, api.Node{Kids: make([]api.Node, n, 200)}, 1+n)
	}
}

func TestGet(t *testing.T) { // P9.2
	n := example()
	for _, empty := range [][]api.Step{nil, {}, make([]api.Step, 0, 4)} {
		wantGet(t, n, empty, example())
		wantGet(t, leaf("a[b]", 1), empty, leaf("a[b]", 1))
		wantGet(t, api.Node{}, empty, api.Node{})
		wantGet(t, box("a[b]", leaf("c", 1)), empty, box("a[b]", leaf("c", 1)))
	}
	wantGet(t, n, way("port[a]"), n.Kids[0])
	wantGet(t, n, way("port[b]"), n.Kids[1])
	wantGet(t, n, way("system"), text("system", "s"))
	wantGet(t, n, way("port[a]", "class[gold]"), n.Kids[0].Kids[1])
	wantGet(t, n, way("port[a]", "class[gold]", "depth"), leaf("depth", 4))
	wantGet(t, n, way("port[a]", "class[be]", "depth"), leaf("depth", 8))
	wantGet(t, n, way("port[a]", "rule[r]", "class"), text("class", "gold"))
	wantGet(t, n, way("port[b]", "class[x]"), box("class[x]"))
	wantGet(t, n, way("port[b]", "default"), text("default", "x"))
	for _, w := range [][]api.Step{
		way(""), way("x"), way("port"), way("port[]"), way("port[c]"), way("port[ab]"), way("port[A]"), way("porta"), way("por[a]"), way("ports[a]"), way("[a]"), way("system[s]"), way("system[a]"), way("class[gold]"), way("depth"),
		way("port[a]", "class"), way("port[a]", "class[x]"), way("port[b]", "class[gold]"), way("port[a]", "default[be]"), way("port[a]", "port[a]"), way("port[a]", ""), way("", "port[a]"), way("port", "default"), way("port[c]", "default"),
		way("port[a]", "class", "depth"), way("port[a]", "class[gold]", "limit"), way("port[a]", "class[gold]", "depth", "depth"), way("port[a]", "class[gold]", "depth", ""), way("system", "system"), way("system", ""), way("system", "s"),
		way("port[b]", "class[x]", "depth"), way("port[b]", "class[x]", ""), way("port[a]", "class[gold]", "depth", "a", "b", "c"), way("x", "port[a]", "default"),
	} {
		wantNoGet(t, n, w)
	}
	wantNoGet(t, api.Node{}, way(""))
	wantNoGet(t, box("a"), way("a"))
	wantNoGet(t, box("a", box("b")), way("a", "b"))
	wantNoGet(t, leaf("a", 1), way("a"))
}

// TestGetFirst has kids of the same step: the first one counts, even if only a later one has the rest of the path.
func TestGetFirst(t *testing.T) { // P9.2
	n := box("", box("b"), leaf("a", 1), box("a", leaf("x", 2)), box("a[k]", leaf("x", 3)), box("a", leaf("x", 4), leaf("x", 5)), box("a[k]", leaf("x", 6), leaf("y", 7)), leaf("", 8))
	wantGet(t, n, way("a"), leaf("a", 1))
	wantGet(t, n, way("a[k]"), box("a[k]", leaf("x", 3)))
	wantGet(t, n, way("a[k]", "x"), leaf("x", 3))
	wantGet(t, n, way(""), leaf("", 8))
	wantNoGet(t, n, way("a", "x"))
	wantNoGet(t, n, way("a[k]", "y"))
	wantNoGet(t, n, way("b", "x"))
	n = box("", box("a", box("b", leaf("c", 1)), box("b", leaf("c", 2), leaf("d", 3))), box("a", box("b", leaf("e", 4))))
	wantGet(t, n, way("a", "b"), box("b", leaf("c", 1)))
	wantGet(t, n, way("a", "b", "c"), leaf("c", 1))
	wantNoGet(t, n, way("a", "b", "d"))
	wantNoGet(t, n, way("a", "b", "e"))
	// A tree that is not right has nodes at paths too: a path through a leaf with kids.
	n = box("", with(box("a", leaf("b", 1)), api.Val{Kind: api.Uint, Num: 7}))
	wantGet(t, n, way("a"), n.Kids[0])
	wantGet(t, n, way("a", "b"), leaf("b", 1))
	// Out of order.
	n = box("", leaf("c", 3), leaf("b", 2), leaf("a", 1), leaf("d", 4))
	for i, s := range []string{"a", "b", "c", "d"} {
		wantGet(t, n, way(s), leaf(s, uint64(i+1)))
	}
}

func TestSorted(t *testing.T) { // P9.2
	wantSorted(t, api.Node{}, api.Node{})
	wantSorted(t, api.Node{Kids: []api.Node{}}, api.Node{})
	wantSorted(t, leaf("a[b]", 1), leaf("a[b]", 1))
	wantSorted(t, example(), example())
	wantSorted(t, box("r[s]", leaf("b", 2), leaf("a", 1)), box("r[s]", leaf("a", 1), leaf("b", 2)))
	wantSorted(t, box("", box("b", leaf("d", 1), leaf("c", 2)), box("a", leaf("f", 3), leaf("e", 4))), box("", box("a", leaf("e", 4), leaf("f", 3)), box("b", leaf("c", 2), leaf("d", 1))))
	// Each level alone out of order.
	wantSorted(t, box("", box("a", box("b", leaf("d", 1), leaf("c", 2)), leaf("x", 3)), leaf("y", 4)), box("", box("a", box("b", leaf("c", 2), leaf("d", 1)), leaf("x", 3)), leaf("y", 4)))
	wantSorted(t, box("", box("a", leaf("x", 3), box("b", leaf("c", 2), leaf("d", 1))), leaf("y", 4)), box("", box("a", box("b", leaf("c", 2), leaf("d", 1)), leaf("x", 3)), leaf("y", 4)))
	wantSorted(t, box("", leaf("y", 4), box("a", box("b", leaf("c", 2), leaf("d", 1)), leaf("x", 3))), box("", box("a", box("b", leaf("c", 2), leaf("d", 1)), leaf("x", 3)), leaf("y", 4)))
	// The same step more than once, at two levels; what they have beside it plays no part.
	wantSorted(t, box("", leaf("b", 9), leaf("a", 3), box("a", leaf("z", 1)), leaf("a", 1), leaf("b", 1), leaf("a", 2)), box("", leaf("a", 3), box("a", leaf("z", 1)), leaf("a", 1), leaf("a", 2), leaf("b", 9), leaf("b", 1)))
	wantSorted(t, box("", box("b", leaf("x[k]", 2), leaf("x", 5), leaf("x[k]", 1), leaf("x", 4)), leaf("a", 1)), box("", leaf("a", 1), box("b", leaf("x", 5), leaf("x", 4), leaf("x[k]", 2), leaf("x[k]", 1))))
	// A leaf's kids, and those of a node with a value of no Kind, are sorted like any.
	wantSorted(t, with(box("a", leaf("c", 1), leaf("b", 1)), api.Val{Kind: 1, Num: 2}), with(box("a", leaf("b", 1), leaf("c", 1)), api.Val{Kind: 1, Num: 2}))
	wantSorted(t, box("", with(box("a", leaf("c", 1), leaf("b", 1)), api.Val{Num: 3, Text: "x"})), box("", with(box("a", leaf("b", 1), leaf("c", 1)), api.Val{Num: 3, Text: "x"})))
	var all []api.Node
	for _, s := range steps {
		all = append(all, api.Node{Name: s.Name, Key: s.Key})
	}
	turned := slices.Clone(all)
	slices.Reverse(turned)
	wantSorted(t, box("x", turned...), box("x", all...))
	wantSorted(t, box("", box("x", turned...)), box("", box("x", all...)))
}

// TestSortedMany has many kids of few steps, which keep their order, at two levels.
func TestSortedMany(t *testing.T) { // P9.2
	random := rand.New(rand.NewSource(9))
	for _, size := range []int{2, 3, 10, 11, 12, 13, 20, 21, 40, 100, 1000} {
		var outer []api.Node
		for i := range size {
			var inner []api.Node
			for j := range min(size, 30) {
				inner = append(inner, leaf([]string{"b", "a", "a[k]", "a[j]"}[random.Intn(4)], uint64(j)))
			}
			outer = append(outer, api.Node{Name: []string{"b", "a", "aa"}[random.Intn(3)], Key: []string{"", "k", "\x80"}[random.Intn(3)], Kids: append(inner, leaf("n", uint64(i)))})
		}
		n := box("", outer...)
		wantSorted(t, n, sorted(n))
	}
}

func TestSetArguments(t *testing.T) { // P9.3
	n := example()
	for _, empty := range [][]api.Step{nil, {}, make([]api.Step, 0, 4)} {
		for _, x := range []api.Node{{}, leaf("a", 1), box("port[a]"), example()} {
			wantNoSet(t, n, empty, x, api.ErrArg)
			wantNoSet(t, leaf("a", 1), empty, x, api.ErrArg)
			wantNoSet(t, api.Node{}, empty, x, api.ErrArg)
		}
	}
	for _, c := range []struct {
		w []api.Step
		x api.Node
	}{
		{way("port[a]"), box("port")}, {way("port[a]"), box("port[b]")}, {way("port[a]"), box("port[ab]")}, {way("port[a]"), box("class[a]")}, {way("port"), box("port[a]")}, {way("new"), leaf("old", 1)}, {way("new"), leaf("new[a]", 1)}, {way("new[a]"), leaf("new", 1)}, {way("new"), api.Node{}}, {way(""), leaf("new", 1)}, {way("a[b]"), box("b[a]")}, {way("a[bc]"), box("ab[c]")},
		{way("port[a]", "default"), leaf("port[a]", 1)}, {way("port[a]", "default"), text("defaul", "be")}, {way("port[a]", "default"), text("default[a]", "be")}, {way("port[a]", "class[gold]"), box("class[be]")}, {way("port[a]", "class[gold]"), box("class")},
		// ErrArg counts where NoPath would be too.
		{way("port[c]", "default"), text("defaults", "be")}, {way("port", "default"), text("default[x]", "be")}, {way("system", "a"), leaf("b", 1)}, {way("port[a]", "default", "a"), leaf("a[b]", 1)}, {way("x", "y", "z"), leaf("y", 1)}, {way("x", "y", "z"), leaf("x", 1)},
	} {
		wantNoSet(t, n, c.w, c.x, api.ErrArg)
	}
	wantNoSet(t, leaf("a", 1), way("b"), leaf("c", 1), api.ErrArg)
}

func TestSetNoPath(t *testing.T) { // P9.3
	n := example()
	for _, w := range [][]api.Step{
		way("port", "a"), way("port[c]", "a"), way("x", "a"), way("", "a"), way("a", "a"), way("port[a]", "class", "a"), way("port[a]", "class[x]", "a"), way("port[c]", "class[gold]", "a"), way("class[gold]", "a"), way("port[a]", "class[gold]", "limit", "a"), way("x", "y", "z", "a"),
		// Leaves have no kids.
		way("system", "a"), way("port[a]", "default", "a"), way("port[b]", "default", "a"), way("port[a]", "class[gold]", "depth", "a"), way("port[a]", "rule[r]", "class", "a"), way("system", "x", "a"), way("port[a]", "default", "x", "a"),
	} {
		wantNoSet(t, n, w, leaf("a", 1), api.NoPath)
		wantNoSet(t, n, w, box("a"), api.NoPath)
		wantNoSet(t, n, w, box("a", leaf("a", 1)), api.NoPath)
	}
	for _, v := range vals {
		if v.Kind != api.None {
			wantNoSet(t, with(box(""), v), way("a"), leaf("a", 1), api.NoPath)
			wantNoSet(t, box("", with(box("b"), v)), way("b", "a"), leaf("a", 1), api.NoPath)
			wantNoSet(t, box("", leaf("a", 1), with(box("b"), v), leaf("c", 1)), way("b", "a"), leaf("a", 1), api.NoPath)
			wantNoSet(t, with(box(""), v), way("b", "a"), leaf("a", 1), api.NoPath)
		}
	}
	wantNoSet(t, api.Node{}, way("a", "b"), leaf("b", 1), api.NoPath)
}

func TestSet(t *testing.T) { // P9.3
	wantSet(t, api.Node{}, way("a"), leaf("a", 1), box("", leaf("a", 1)))
	wantSet(t, api.Node{}, way(""), api.Node{}, box("", api.Node{}))
	wantSet(t, box("r[s]"), way("a[b]"), box("a[b]", leaf("c", 1)), box("r[s]", box("a[b]", leaf("c", 1))))
	three := box("", leaf("b", 1), leaf("d", 2), leaf("f", 3))
	// In place of another one: the first, a middle, and the last kid; a box for a leaf; the same again.
	wantSet(t, three, way("b"), leaf("b", 7), box("", leaf("b", 7), leaf("d", 2), leaf("f", 3)))
	wantSet(t, three, way("d"), leaf("d", 7), box("", leaf("b", 1), leaf("d", 7), leaf("f", 3)))
	wantSet(t, three, way("f"), leaf("f", 7), box("", leaf("b", 1), leaf("d", 2), leaf("f", 7)))
	wantSet(t, three, way("d"), box("d", leaf("x", 1)), box("", leaf("b", 1), box("d", leaf("x", 1)), leaf("f", 3)))
	wantSet(t, three, way("d"), leaf("d", 2), three)
	wantSet(t, box("", box("d", leaf("x", 1), leaf("y", 1))), way("d"), box("d", leaf("z", 1)), box("", box("d", leaf("z", 1))))
	wantSet(t, box("", box("d", leaf("x", 1))), way("d"), leaf("d", 1), box("", leaf("d", 1)))
	// As an additional one.
	wantSet(t, three, way("a"), leaf("a", 7), box("", leaf("a", 7), leaf("b", 1), leaf("d", 2), leaf("f", 3)))
	wantSet(t, three, way("c"), leaf("c", 7), box("", leaf("b", 1), leaf("c", 7), leaf("d", 2), leaf("f", 3)))
	wantSet(t, three, way("e"), leaf("e", 7), box("", leaf("b", 1), leaf("d", 2), leaf("e", 7), leaf("f", 3)))
	wantSet(t, three, way("g"), leaf("g", 7), box("", leaf("b", 1), leaf("d", 2), leaf("f", 3), leaf("g", 7)))
	wantSet(t, three, way(""), leaf("", 7), box("", leaf("", 7), leaf("b", 1), leaf("d", 2), leaf("f", 3)))
	wantSet(t, three, way("\xff"), leaf("\xff", 7), box("", leaf("b", 1), leaf("d", 2), leaf("f", 3), leaf("\xff", 7)))
	// Beside one of the same name and another key.
	wantSet(t, three, way("d[a]"), leaf("d[a]", 7), box("", leaf("b", 1), leaf("d", 2), leaf("d[a]", 7), leaf("f", 3)))
	wantSet(t, box("", leaf("d[b]", 1)), way("d"), leaf("d", 7), box("", leaf("d", 7), leaf("d[b]", 1)))
	wantSet(t, box("", leaf("d[b]", 1)), way("d[a]"), leaf("d[a]", 7), box("", leaf("d[a]", 7), leaf("d[b]", 1)))
	wantSet(t, box("", leaf("d[b]", 1)), way("d[c]"), leaf("d[c]", 7), box("", leaf("d[b]", 1), leaf("d[c]", 7)))
	wantSet(t, box("", leaf("da", 1)), way("d[z]"), leaf("d[z]", 7), box("", leaf("d[z]", 7), leaf("da", 1)))
}

func TestSetDeep(t *testing.T) { // P9.3
	want := example()
	want.Kids[0].Kids[1].Kids[1] = leaf("depth", 64)
	wantSet(t, example(), way("port[a]", "class[gold]", "depth"), leaf("depth", 64), want)
	want = example()
	want.Kids[0].Kids[1] = box("class[gold]", leaf("x", 1))
	wantSet(t, example(), way("port[a]", "class[gold]"), box("class[gold]", leaf("x", 1)), want)
	want = example()
	want.Kids[0].Kids = slices.Insert(want.Kids[0].Kids, 1, box("class[c]", leaf("depth", 1)))
	wantSet(t, example(), way("port[a]", "class[c]"), box("class[c]", leaf("depth", 1)), want)
	want = example()
	want.Kids[1].Kids[0].Kids = []api.Node{leaf("burst", 1)}
	wantSet(t, example(), way("port[b]", "class[x]", "burst"), leaf("burst", 1), want)
	want = example()
	want.Kids = slices.Insert(want.Kids, 2, example().Kids[0])
	want.Kids[2].Key = "c"
	wantSet(t, example(), way("port[c]"), want.Kids[2], want)
	// The tree itself may be what is set.
	x := box("a[b]", leaf("c", 1))
	wantSet(t, x, way("a[b]"), x, box("a[b]", x, leaf("c", 1)))
	wantSet(t, box("a", box("a", leaf("b", 1))), way("a", "a"), box("a"), box("a", box("a", box("a"), leaf("b", 1))))
	// A node at the path's beginning that has just another place is left alone.
	wantSet(t, box("", box("a", leaf("k", 1)), box("b", leaf("k", 2)), box("c", leaf("k", 3))), way("b", "k"), leaf("k", 9), box("", box("a", leaf("k", 1)), box("b", leaf("k", 9)), box("c", leaf("k", 3))))
}

// TestSetAny holds that what is set needs not be right, and is not changed by that.
func TestSetAny(t *testing.T) { // P9.3
	for _, x := range []api.Node{
		box("m", leaf("b", 1), leaf("a", 2)), box("m", leaf("a", 1), leaf("a", 2)), with(box("m"), api.Val{Num: 1}), with(box("m", leaf("b", 1), leaf("a", 1)), api.Val{Kind: api.Uint, Text: "x"}), with(box("m"), api.Val{Kind: -1}), box("m", box("n", leaf("b", 1), leaf("a", 2))),
	} {
		wantSet(t, box("", leaf("a", 1), leaf("z", 2)), way("m"), x, box("", leaf("a", 1), x, leaf("z", 2)))
		wantSet(t, box("", leaf("a", 1), leaf("m", 1), leaf("z", 2)), way("m"), x, box("", leaf("a", 1), x, leaf("z", 2)))
		wantSet(t, box("", box("a", leaf("m", 1)), leaf("z", 2)), way("a", "m"), x, box("", box("a", x), leaf("z", 2)))
	}
}

func TestCut(t *testing.T) { // P9.3
	three := box("r[s]", leaf("b", 1), leaf("d", 2), leaf("f", 3))
	wantCut(t, three, way("b"), box("r[s]", leaf("d", 2), leaf("f", 3)))
	wantCut(t, three, way("d"), box("r[s]", leaf("b", 1), leaf("f", 3)))
	wantCut(t, three, way("f"), box("r[s]", leaf("b", 1), leaf("d", 2)))
	wantCut(t, box("", leaf("a", 1)), way("a"), api.Node{})
	wantCut(t, box("", api.Node{}), way(""), api.Node{})
	wantCut(t, box("", box("a", leaf("b", 1), box("c", leaf("d", 1)))), way("a"), api.Node{})
	want := example()
	want.Kids[0].Kids[1].Kids = slices.Delete(want.Kids[0].Kids[1].Kids, 1, 2)
	wantCut(t, example(), way("port[a]", "class[gold]", "depth"), want)
	want = example()
	want.Kids[0].Kids = slices.Delete(want.Kids[0].Kids, 0, 1)
	wantCut(t, example(), way("port[a]", "class[be]"), want)
	want = example()
	want.Kids[1].Kids = want.Kids[1].Kids[1:]
	wantCut(t, example(), way("port[b]", "class[x]"), want)
	want = example()
	want.Kids = want.Kids[:2]
	wantCut(t, example(), way("system"), want)
	want = example()
	want.Kids = want.Kids[1:]
	wantCut(t, example(), way("port[a]"), want)
	wantCut(t, box("", box("a", leaf("k", 1)), box("b", leaf("k", 2)), box("c", leaf("k", 3))), way("b", "k"), box("", box("a", leaf("k", 1)), box("b"), box("c", leaf("k", 3))))
}

func TestCutNoPath(t *testing.T) { // P9.3
	for _, n := range []api.Node{{}, leaf("a", 1), box("a"), example(), box("a", leaf("a", 1))} {
		for _, w := range [][]api.Step{nil, {}, make([]api.Step, 0, 4), way("x"), way("", "a"), way("a", "a"), way("port"), way("port[c]"), way("port[ab]"), way("system[s]"), way("system", "s"), way("system", ""), way("port[a]", "class"), way("port[a]", "class[x]"), way("port[b]", "class[gold]"), way("port[a]", "default[be]"), way("port[a]", "default", "be"), way("port[c]", "default"), way("port", "default"), way("class[gold]", "depth"), way("port[a]", "class[gold]", "limit"), way("port[a]", "class[gold]", "depth", "depth"), way("x", "y", "z")} {
			wantNoCut(t, n, w)
		}
	}
	wantNoCut(t, api.Node{}, way(""))
	wantNoCut(t, box("a"), way("a"))
	wantNoCut(t, leaf("a", 1), way("a"))
}

// all calls a function for all trees of so many nodes, and of fewer, whose nodes have some steps and values.
func all(size int, heads []api.Node, call func(n api.Node)) {
	bySize := make([][]api.Node, size+1) // trees
	forests := [][][]api.Node{{{}}}      // lists of trees
	for s := 1; s <= size; s++ {
		for _, kids := range forests[s-1] {
			for _, n := range heads {
				n.Kids = kids
				bySize[s] = append(bySize[s], n)
				call(n)
			}
		}
		var lists [][]api.Node
		for last := 1; last <= s; last++ {
			for _, ahead := range forests[s-last] {
				for _, n := range bySize[last] {
					lists = append(lists, append(slices.Clip(ahead), n))
				}
			}
		}
		forests = append(forests, lists)
	}
}

// ways is all of so many steps of some, and of fewer.
func ways(size int, some []api.Step) [][]api.Step {
	l := [][]api.Step{{}}
	for i := 0; i < len(l); i++ {
		if len(l[i]) < size {
			for _, s := range some {
				l = append(l, append(slices.Clip(l[i]), s))
			}
		}
	}
	return l
}

// heads is nodes without kids, leaves and boxes of each of some steps.
func heads(steps ...string) []api.Node {
	var l []api.Node
	for _, s := range steps {
		l = append(l, box(s), leaf(s, 7))
	}
	return l
}

// TestAllTrees holds what is told of each small tree, right or not, against the chapter.
func TestAllTrees(t *testing.T) { // P9.1, P9.2
	paths := ways(3, way("a", "a[k]", "b"))
	count := 0
	all(4, heads("a", "a[k]", "b"), func(n api.Node) {
		count++
		l := entries(n)
		if is, size := tree.Right(n), tree.Size(n); is != rightly(l) || size != len(l) {
			t.Fatalf("%s: Right %v, Size %d", show(n), is, size)
		}
		if r := tree.Sorted(n); !equal(r, sorted(n)) {
			t.Fatalf("Sorted(%s) = %s", show(n), show(r))
		}
		for _, w := range paths {
			want, wanted := got(l, w)
			if x, ok := tree.Get(n, w); ok != wanted || !reflect.DeepEqual(entries(x), want) {
				t.Fatalf("Get(%s, %q) = %s, %v", show(n), w, show(x), ok)
			}
		}
	})
	if count != 6+36+432+6480 {
		t.Fatalf("%d trees", count)
	}
}

// TestAllRight is the same of nodes with values that a node that is no leaf may not have.
func TestAllRight(t *testing.T) { // P9.1
	l := append(heads("a", "b"), with(box("a"), api.Val{Num: 1}), with(box("b"), api.Val{Text: "x"}), with(box("c"), api.Val{Kind: -1}))
	all(4, l, func(n api.Node) {
		if is := tree.Right(n); is != rightly(entries(n)) {
			t.Fatalf("Right(%s) = %v", show(n), is)
		}
	})
}

func TestAllPairs(t *testing.T) { // P9.1
	var l []api.Node
	var shown []string
	all(3, append(heads("a", "a[k]"), with(box("b"), api.Val{Kind: api.Ref, Text: "a"})), func(n api.Node) {
		l = append(l, n)
		shown = append(shown, show(n))
	})
	for i, a := range l {
		for j, b := range l {
			if is := tree.Same(a, b); is != (shown[i] == shown[j]) || is != (i == j) {
				t.Fatalf("Same(%s, %s) = %v", shown[i], shown[j], is)
			}
		}
	}
}

// wantChange asks Set and Cut of a tree that is right, holds what they return against the chapter, and Get against Set.
func wantChange(t *testing.T, n api.Node, w []api.Step, x api.Node) {
	t.Helper()
	l := entries(n)
	want, wanted := set(l, w, entries(x))
	r, err := tree.Set(n, w, x)
	if err != wanted || !reflect.DeepEqual(entries(r), want) {
		t.Fatalf("Set(%s, %q, %s) = %s, %v, want %v", show(n), w, show(x), show(r), err, wanted)
	}
	if err == api.OK {
		if back, ok := tree.Get(r, w); !ok || !equal(back, x) {
			t.Fatalf("Get(Set(%s, %q, %s)) = %s, %v", show(n), w, show(x), show(back), ok)
		}
		if is := tree.Right(r); is != rightly(entries(x)) {
			t.Fatalf("Right(Set(%s, %q, %s)) = %v", show(n), w, show(x), is)
		}
	}
	want, wanted = cut(l, w)
	r, err = tree.Cut(n, w)
	if err != wanted || !reflect.DeepEqual(entries(r), want) {
		t.Fatalf("Cut(%s, %q) = %s, %v, want %v", show(n), w, show(r), err, wanted)
	}
	if !tree.Right(r) {
		t.Fatalf("Cut(%s, %q) = %s is not right", show(n), w, show(r))
	}
	if _, ok := tree.Get(r, w); ok && err == api.OK {
		t.Fatalf("Cut(%s, %q) = %s still has it", show(n), w, show(r))
	}
}

// TestAllChanges asks each small tree that is right, each path and each small node, right or not.
func TestAllChanges(t *testing.T) { // P9.3, P9.4
	paths := ways(3, way("a", "a[k]", "b"))
	var xs []api.Node
	all(2, heads("a", "a[k]", "b"), func(n api.Node) { xs = append(xs, n) })
	xs = append(xs, box("a", leaf("b", 1), leaf("a", 2)), box("b", leaf("a", 1), leaf("a", 2)), with(box("a[k]"), api.Val{Num: 3}), box("c"), leaf("a[l]", 1), api.Node{})
	all(4, heads("a", "a[k]", "b"), func(n api.Node) {
		if n.Name != "a" || n.Key != "" || !rightly(entries(n)) {
			return
		}
		for _, w := range paths {
			for _, x := range xs {
				wantChange(t, n, w, x)
			}
		}
	})
}

// TestManyChanges changes a tree again and again, and holds it against a list each time.
func TestManyChanges(t *testing.T) { // P9.3, P9.4
	random := rand.New(rand.NewSource(4))
	some := way("a", "a[b]", "a[\x80]", "aa", "b", "b[a]", "c")
	pick := func() api.Step { return some[random.Intn(len(some))] }
	var grow func(s api.Step, depth int) api.Node
	grow = func(s api.Step, depth int) api.Node {
		n := api.Node{Name: s.Name, Key: s.Key}
		if random.Intn(4) == 0 {
			n.Val = api.Val{Kind: 1 + random.Intn(6), Num: uint64(random.Intn(9)), Text: string(rune('a' + random.Intn(3)))}
			return n
		}
		for _, s := range some {
			if depth > 0 && random.Intn(3) == 0 {
				n.Kids = append(n.Kids, grow(s, depth-1))
			}
		}
		return sorted(n)
	}
	var n api.Node
	changes := 0
	for i := range 5000 {
		var w []api.Step
		for range random.Intn(6) {
			w = append(w, pick())
		}
		x := grow(pick(), random.Intn(3))
		if len(w) > 0 && random.Intn(8) > 0 {
			x.Name, x.Key = w[len(w)-1].Name, w[len(w)-1].Key
		}
		wantChange(t, n, w, x)
		r, err := tree.Set(n, w, x)
		if i%3 == 0 || tree.Size(n) > 200 {
			r, err = tree.Cut(n, w)
		}
		if err == api.OK {
			changes++
			n = r
		}
	}
	if changes < 1000 {
		t.Fatalf("%d changes", changes)
	}
}

// roomy is a tree that is the same, each of whose lists of kids has room behind it, with nodes in it.
func roomy(n api.Node) api.Node {
	kids := make([]api.Node, 0, len(n.Kids)+3)
	for _, kid := range n.Kids {
		kids = append(kids, roomy(kid))
	}
	for i := len(kids); i < cap(kids); i++ {
		kids[:cap(kids)][i] = box("spare", leaf("kid", uint64(i)))
	}
	n.Kids = kids
	return n
}

// image is all that a tree has, the room behind its lists too.
func image(n api.Node) string {
	b := show(api.Node{Name: n.Name, Key: n.Key, Val: n.Val}) + strconv.Itoa(len(n.Kids)) + "("
	for _, kid := range n.Kids[:cap(n.Kids)] {
		b += image(kid)
	}
	return b + ")"
}

// spoil writes over all that a tree has, the room behind its lists too.
func spoil(n api.Node) {
	kids := n.Kids[:cap(n.Kids)]
	for i := range kids {
		spoil(kids[i])
		kids[i] = api.Node{Name: "spoilt", Key: "k", Val: api.Val{Kind: 3, Num: 99, Text: "t"}, Kids: []api.Node{box("worse")}}
	}
}

// places calls a function for the place in memory of each node in the lists of a tree, and in the room behind them.
func places(n api.Node, call func(place *api.Node)) {
	kids := n.Kids[:cap(n.Kids)]
	for i := range kids {
		call(&kids[i])
		places(kids[i], call)
	}
}

// answers is all trees that are returned for some arguments.
func answers(n api.Node, w []api.Step, x api.Node) []api.Node {
	whole, _ := tree.Get(n, nil)
	part, _ := tree.Get(n, w)
	with, _ := tree.Set(n, w, x)
	without, _ := tree.Cut(n, w)
	return []api.Node{whole, part, with, without, tree.Sorted(n), tree.Sorted(x)}
}

// given is the arguments of a call.
type given struct {
	n api.Node
	w []api.Step
	x api.Node
}

// shared is functions that make arguments anew, some of which have memory in common.
func shared() []func() given {
	var l []func() given
	for _, w := range [][]api.Step{way("system"), way("port[a]"), way("port[a]", "class[be]"), way("port[a]", "class[gold]"), way("port[a]", "class[gold]", "depth"), way("port[b]", "class[x]"), way("port[b]", "class[x]", "new"), way("port[b]", "a"), way("a"), way("zzz"), way("port[aa]"), way("x", "y"), way("system", "a"), nil} {
		named := func(x api.Node) api.Node {
			if len(w) > 0 {
				x.Name, x.Key = w[len(w)-1].Name, w[len(w)-1].Key
			}
			return x
		}
		l = append(l, func() given {
			return given{roomy(example()), w, named(roomy(box("x", box("a", leaf("b", 1)), leaf("c", 1))))}
		})
		// The node to set is the tree itself, or a part of it.
		for _, part := range [][]int{{}, {0}, {0, 1}, {1}, {2}} {
			l = append(l, func() given {
				n := roomy(example())
				x := n
				for _, i := range part {
					x = x.Kids[i]
				}
				return given{n, w, named(x)}
			})
		}
	}
	// Kids that have one list in common, within a tree and with what is set.
	for _, w := range [][]api.Step{way("p"), way("q", "a"), way("q", "b", "c"), way("r", "s"), way("r", "s", "b"), way("t"), way("u"), way("a"), way("q", "x")} {
		l = append(l, func() given {
			kids := []api.Node{leaf("a", 1), box("b", leaf("c", 1))}
			twins := box("", box("p", kids...), box("q", kids...), box("r", box("s", kids...)), box("t", kids[:1]...))
			return given{twins, w, api.Node{Name: w[len(w)-1].Name, Key: w[len(w)-1].Key, Kids: kids}}
		})
	}
	return l
}

// images is those of some trees.
func images(l []api.Node) []string {
	var r []string
	for _, n := range l {
		r = append(r, image(n))
	}
	return r
}

// TestNewMemory holds that no place in memory belongs to two lists of answers and arguments.
func TestNewMemory(t *testing.T) { // P9.2, P9.3
	for _, fresh := range shared() {
		c := fresh()
		taken := map[*api.Node]bool{}
		for _, n := range []api.Node{c.n, c.x} {
			places(n, func(place *api.Node) { taken[place] = true })
		}
		for i, r := range slices.Concat(answers(c.n, c.w, c.x), answers(c.n, c.w, c.x)) {
			places(r, func(place *api.Node) {
				if taken[place] {
					t.Fatalf("%s, %q, %s: answer %d shares memory", show(c.n), c.w, show(c.x), i)
				}
				taken[place] = true
			})
		}
	}
}

// TestChanges holds that nobody's change to an answer is seen in an argument or another answer, nor one to an argument in an answer.
func TestChanges(t *testing.T) { // P9.2, P9.3
	count := len(answers(api.Node{}, nil, api.Node{}))
	for _, fresh := range shared() {
		for i := range 2 * count {
			c := fresh()
			l := slices.Concat(answers(c.n, c.w, c.x), answers(c.n, c.w, c.x))
			l[i], l[0] = l[0], l[i]
			args, was := images([]api.Node{c.n, c.x}), images(l)
			spoil(l[0])
			if !slices.Equal(images([]api.Node{c.n, c.x}), args) {
				t.Fatalf("%s, %q: a change to answer %d is seen in an argument", args[0], c.w, i)
			}
			if !slices.Equal(images(l[1:]), was[1:]) {
				t.Fatalf("%s, %q: a change to answer %d is seen in another one", args[0], c.w, i)
			}
		}
		for i := range 2 {
			c := fresh()
			l := answers(c.n, c.w, c.x)
			was := images(l)
			spoil([]api.Node{c.n, c.x}[i])
			if !slices.Equal(images(l), was) {
				t.Fatalf("%q: a change to argument %d is seen in an answer", c.w, i)
			}
		}
	}
}

// TestArguments holds that no argument is changed, nor the room behind it, and that the same is answered again.
func TestArguments(t *testing.T) { // P9.1, P9.2, P9.3
	for _, fresh := range shared() {
		for _, unsorted := range []bool{false, true} {
			c := fresh()
			if unsorted {
				c.n = roomy(box("", leaf("b", 2), box("a", leaf("d", 1), leaf("c", 1)), leaf("a", 3), leaf("", 1)))
			}
			room := append(slices.Clone(c.w), way("spare", "room")...)
			w := room[:len(c.w)]
			n, x, steps := image(c.n), image(c.x), slices.Clone(room)
			first := answers(c.n, w, c.x)
			tree.Less(c.n, c.x)
			tree.Right(c.n)
			tree.Size(c.n)
			for _, r := range first {
				tree.Same(c.n, r)
				tree.Same(r, c.x)
			}
			if image(c.n) != n || image(c.x) != x || !slices.Equal(room, steps) {
				t.Fatalf("%s, %q, %s: an argument changed", n, c.w, x)
			}
			for i, r := range answers(c.n, w, c.x) {
				if !equal(r, first[i]) {
					t.Fatalf("%s, %q, %s: answer %d is another one the second time", n, c.w, x, i)
				}
			}
		}
	}
}

// TestKeepsPath holds that a later change to a path or to what was set is not seen.
func TestKeepsPath(t *testing.T) { // P9.3, P9.4
	w, x := way("port[a]", "class[gold]"), box("class[gold]", leaf("depth", 9))
	r, err := tree.Set(example(), w, x)
	want := example()
	want.Kids[0].Kids[1] = box("class[gold]", leaf("depth", 9))
	w[0], w[1], x.Kids[0].Val.Num = step("port[b]"), step("class[x]"), 1
	if err != api.OK || !equal(r, want) {
		t.Errorf("%s, %v, want %s", show(r), err, show(want))
	}
}

// TestWrongTrees holds that every call returns for trees that are not right too.
func TestWrongTrees(t *testing.T) {
	paths := ways(3, way("a", "b"))
	all(4, append(heads("a", "b"), with(box("a"), api.Val{Num: 1})), func(n api.Node) {
		for _, w := range paths {
			answers(n, w, leaf("a", 1))
			answers(n, w, n)
		}
	})
}

// TestDepth has as many levels as the document allows.
func TestDepth(t *testing.T) {
	const levels = 1 << 16
	chain := func(end api.Node) api.Node {
		for range levels - 1 {
			end = box("a", end)
		}
		return end
	}
	w := slices.Repeat(way("a"), levels-1)
	n, other := chain(leaf("a", 1)), chain(leaf("a", 2))
	if !tree.Right(n) || tree.Size(n) != levels || !tree.Same(n, n) || tree.Same(n, other) || !tree.Same(tree.Sorted(n), n) {
		t.Errorf("a tree of %d levels: Right %v, Size %d, Same %v, of another %v", levels, tree.Right(n), tree.Size(n), tree.Same(n, n), tree.Same(n, other))
	}
	if x, ok := tree.Get(n, w); !ok || !equal(x, leaf("a", 1)) {
		t.Errorf("Get = %s, %v", short(x), ok)
	}
	if r, err := tree.Set(n, w, leaf("a", 2)); err != api.OK || !tree.Same(r, other) {
		t.Errorf("Set: %v", err)
	}
	if r, err := tree.Set(n, append(w, step("a")), leaf("a", 2)); err != api.NoPath || !reflect.DeepEqual(r, api.Node{}) {
		t.Errorf("Set below a leaf: %v", err)
	}
	if r, err := tree.Cut(n, w); err != api.OK || tree.Size(r) != levels-1 {
		t.Errorf("Cut: %v, %d", err, tree.Size(r))
	}
	if r := tree.Sorted(chain(box("a", leaf("c", 1), leaf("b", 1)))); !tree.Same(r, chain(box("a", leaf("b", 1), leaf("c", 1)))) {
		t.Error("Sorted left the last level as it was")
	}
}

// TestWidth has many kids of one node.
func TestWidth(t *testing.T) {
	const size = 100000
	var kids []api.Node
	for i := range size {
		kids = append(kids, leaf("k["+strconv.Itoa(1000000+2*i)+"]", uint64(i)))
	}
	n := box("", kids...)
	turned := slices.Clone(kids)
	slices.Reverse(turned)
	if !tree.Right(n) || tree.Size(n) != size+1 || !tree.Same(tree.Sorted(box("", turned...)), n) || tree.Right(box("", turned...)) {
		t.Error("a wide tree")
	}
	for _, i := range []int{0, 1, size / 2, size - 2, size - 1} {
		s := api.Step{Name: "k", Key: strconv.Itoa(1000000 + 2*i)}
		wantGet(t, n, []api.Step{s}, kids[i])
		if r, err := tree.Cut(n, []api.Step{s}); err != api.OK || !tree.Same(r, box("", slices.Delete(slices.Clone(kids), i, i+1)...)) {
			t.Errorf("Cut of kid %d: %v", i, err)
		}
		x := leaf("k["+strconv.Itoa(1000000+2*i+1)+"]", 7)
		if r, err := tree.Set(n, []api.Step{{Name: x.Name, Key: x.Key}}, x); err != api.OK || !tree.Same(r, box("", slices.Insert(slices.Clone(kids), i+1, x)...)) {
			t.Errorf("Set behind kid %d: %v", i, err)
		}
	}
}
