package diff_test

import (
	"math"
	"slices"
	"strings"
	"testing"

	"tollbar/api"
	"tollbar/diff"
)

// otherKinds is what no kind of an edit is.
var otherKinds = []int{0, -1, -2, -3, 4, 5, 6, 7, 100, 255, 256, 257, 258, 259, 1 << 16, 1<<16 + 1, 1<<32 + 1, 1<<32 + 3, math.MaxInt, math.MinInt, math.MinInt + 1}

func wantInverse(t *testing.T, l []api.Edit, want ...api.Edit) {
	t.Helper()
	if back := diff.Inverse(l); show(back) != show(want) {
		t.Errorf("Inverse of\n%sis\n%swant\n%s", short(show(l)), short(show(back)), short(show(want)))
	}
}

// full is an edit of a kind that has all that an edit may have, be it used or not.
func full(kind int, way []api.Step, node, old api.Node) api.Edit {
	return api.Edit{Kind: kind, Way: way, Node: node, Old: old}
}

func TestInverse(t *testing.T) { // P16.2
	wantInverse(t, nil)
	wantInverse(t, []api.Edit{})
	wantInverse(t, make([]api.Edit, 0, 3))
	x, y := box("b[k]", leaf("c", 1), box("d", text("e", "f"))), leaf("b[k]", 2)
	wrong := box("b[k]", leaf("d", 1), box("c", leaf("b", 1), leaf("b", 2), leaf("a", 3)), api.Node{Name: "c", Val: api.Val{Kind: 1, Num: 1}, Kids: []api.Node{leaf("x", 1)}}, api.Node{Val: api.Val{Num: 1, Text: "a"}})
	for _, w := range [][]api.Step{way("a", "b[k]"), way("b[k]"), nil, {}, way("a", "b", "c", "d", "e", "f", "g"), way("x")} {
		for _, n := range []api.Node{x, y, {}, leaf("", 3), with("\xff", api.Val{Kind: -1, Num: 1, Text: "t"}), wrong} {
			wantInverse(t, []api.Edit{created(w, n)}, deleted(w, n))
			wantInverse(t, []api.Edit{deleted(w, n)}, created(w, n))
			for _, old := range []api.Node{x, y, n, {}, wrong} {
				wantInverse(t, []api.Edit{replaced(w, n, old)}, replaced(w, old, n))
				// What its kind does not use plays no part.
				wantInverse(t, []api.Edit{full(api.Create, w, n, old)}, deleted(w, n))
				wantInverse(t, []api.Edit{full(api.Delete, w, n, old)}, created(w, old))
			}
		}
	}
	wantInverse(t, make([]api.Edit, 5))
	wantInverse(t, []api.Edit{{Kind: api.Create}, {Kind: api.Delete}, {Kind: api.Replace}}, api.Edit{Kind: api.Replace}, api.Edit{Kind: api.Create}, api.Edit{Kind: api.Delete})
}

// TestInverseOrder: the edits stand from the last one to the first, even those of one way.
func TestInverseOrder(t *testing.T) { // P16.2
	a, b, c := leaf("a", 1), box("b", leaf("x", 1)), leaf("c[k]", 3)
	wantInverse(t, []api.Edit{created(way("a"), a), deleted(way("b"), b), replaced(way("p", "c[k]"), c, leaf("c[k]", 4))},
		replaced(way("p", "c[k]"), leaf("c[k]", 4), c), created(way("b"), b), deleted(way("a"), a))
	wantInverse(t, []api.Edit{deleted(way("a"), a), created(way("a"), box("a"))}, deleted(way("a"), box("a")), created(way("a"), a))
	wantInverse(t, []api.Edit{created(way("a"), a), created(way("b"), b), created(way("c[k]"), c), created(way("b"), b)},
		deleted(way("b"), b), deleted(way("c[k]"), c), deleted(way("b"), b), deleted(way("a"), a))
	wantInverse(t, []api.Edit{replaced(way("a"), a, leaf("a", 2)), replaced(way("a"), leaf("a", 2), leaf("a", 3))},
		replaced(way("a"), leaf("a", 3), leaf("a", 2)), replaced(way("a"), leaf("a", 2), a))
	var l, want []api.Edit
	for i := range 100 {
		n, old := leaf("n", uint64(i)), leaf("n", uint64(1000+i))
		l = append(l, full(1+i%3, []api.Step{{Name: "n", Key: strings.Repeat("k", i)}}, n, old))
	}
	for _, x := range slices.Backward(l) {
		switch x.Kind {
		case 1:
			want = append(want, deleted(x.Way, x.Node))
		case 2:
			want = append(want, created(x.Way, x.Old))
		case 3:
			want = append(want, replaced(x.Way, x.Old, x.Node))
		}
	}
	wantInverse(t, l, want...)
}

// TestInverseOthers: edits of other kinds are omitted, wherever they stand.
func TestInverseOthers(t *testing.T) { // P16.2
	a, b := leaf("a", 1), leaf("a", 2)
	good := []api.Edit{created(way("a"), a), replaced(way("a"), b, a), deleted(way("a"), b)}
	want := []api.Edit{created(way("a"), b), replaced(way("a"), a, b), deleted(way("a"), a)}
	for _, kind := range otherKinds {
		for _, x := range []api.Edit{{Kind: kind}, full(kind, way("a"), a, b), full(kind, way("p[q]", "a"), box("a", a), api.Node{}), full(kind, nil, api.Node{}, b)} {
			wantInverse(t, []api.Edit{x})
			wantInverse(t, []api.Edit{x, x, x})
			for i := range 4 {
				wantInverse(t, slices.Insert(slices.Clone(good), i, x), want...)
				wantInverse(t, slices.Insert(slices.Clone(good), i, x, x), want...)
			}
			wantInverse(t, []api.Edit{x, good[0], x, good[1], x, good[2], x}, want...)
		}
	}
	var l []api.Edit
	for kind := -300; kind < 300; kind++ {
		l = append(l, full(kind, way("a"), a, b))
	}
	wantInverse(t, l, replaced(way("a"), b, a), created(way("a"), b), deleted(way("a"), a))
}

// sample is edits of each kind, at many ways.
func sample() []api.Edit {
	var l []api.Edit
	for kind := -1; kind < 5; kind++ {
		for _, w := range someWays() {
			l = append(l, full(kind, w, box("x", leaf("y", 1)), leaf("z", 2)))
		}
	}
	return l
}

// someWays is ways of which many begin with another one, or all but do.
func someWays() [][]api.Step {
	l := [][]api.Step{nil, {}}
	for _, a := range way("", "a", "a[b]", "ab", "[a]", "b") {
		l = append(l, []api.Step{a})
		for _, b := range way("", "a", "a[b]", "a[c]", "b") {
			l = append(l, []api.Step{a, b}, []api.Step{a, b, b}, []api.Step{a, b, a, b, a, b, a, b})
		}
	}
	return l
}

func wantUnder(t *testing.T, l []api.Edit, w []api.Step, want int) {
	t.Helper()
	if n := diff.Under(l, w); n != want {
		t.Errorf("Under(%q) = %d, want %d, of\n%s", w, n, want, short(show(l)))
	}
}

func TestUnder(t *testing.T) { // P16.2
	n, old := leaf("x", 1), leaf("x", 2)
	wantUnder(t, nil, nil, 0)
	wantUnder(t, []api.Edit{}, []api.Step{}, 0)
	wantUnder(t, nil, way("a"), 0)
	wantUnder(t, []api.Edit{{}}, nil, 1)
	wantUnder(t, []api.Edit{{}}, way(""), 0)
	l := []api.Edit{
		created(way("port[a]"), n), created(way("port[a]", "class[b]"), n), deleted(way("port[a]", "class[b]", "rate"), old), replaced(way("port[a]", "default"), n, old),
		created(way("port[b]", "class[b]"), n), deleted(way("port"), old), replaced(way("ports[a]"), n, old), deleted(way("a"), old), created(nil, n), created(way("class[b]"), n), deleted(way("port[a]", "class[b]", "rate"), old),
	}
	for _, c := range []struct {
		w    []api.Step
		want int
	}{
		{nil, 11}, {[]api.Step{}, 11}, {way("port[a]"), 5}, {way("port[a]", "class[b]"), 3}, {way("port[a]", "class[b]", "rate"), 2}, {way("port[a]", "class[b]", "rate", "x"), 0}, {way("port[a]", "default"), 1}, {way("port[b]"), 1}, {way("port[b]", "class[b]"), 1},
		{way("port"), 1}, {way("port[c]"), 0}, {way("port[ab]"), 0}, {way("port[A]"), 0}, {way("por[a]"), 0}, {way("ports[a]"), 1}, {way("ports"), 0}, {way("a"), 1}, {way("a[a]"), 0}, {way(""), 0}, {way("[a]"), 0}, {way("class[b]"), 1}, {way("rate"), 0}, {way("default"), 0},
		{way("port[a]", "class"), 0}, {way("port[a]", "class[c]"), 0}, {way("port[a]", "default[a]"), 0}, {way("port[b]", "class[b]", "rate"), 0}, {way("port", "class[b]"), 0}, {way("port[a]", ""), 0}, {make([]api.Step, 7), 0},
	} {
		wantUnder(t, l, c.w, c.want)
	}
	// Each kind of edit counts, and one that stands there twice counts twice.
	for _, kind := range append([]int{1, 2, 3}, otherKinds...) {
		x := full(kind, way("a", "b"), n, old)
		wantUnder(t, []api.Edit{x}, way("a"), 1)
		wantUnder(t, []api.Edit{x, x, {}, x}, way("a"), 3)
		wantUnder(t, []api.Edit{x, x, {}, x}, nil, 4)
		wantUnder(t, []api.Edit{x, x}, way("b"), 0)
	}
}

// TestUnderAll: many ways, each of them against each.
func TestUnderAll(t *testing.T) { // P16.2
	l := sample()
	for _, front := range someWays() {
		want := 0
		for _, x := range l {
			if len(front) <= len(x.Way) && showWay(x.Way[:len(front)]) == showWay(front) {
				want++
				wantUnder(t, []api.Edit{x}, front, 1)
			} else {
				wantUnder(t, []api.Edit{x}, front, 0)
			}
		}
		wantUnder(t, l, front, want)
	}
}

// wantSame asks both ways round.
func wantSame(t *testing.T, a, b []api.Edit, want bool) {
	t.Helper()
	if is, turned := diff.Same(a, b), diff.Same(b, a); is != want || turned != want {
		t.Errorf("Same = %v, turned round %v, want %v, of\n%sand\n%s", is, turned, want, short(show(a)), short(show(b)))
	}
}

func TestSame(t *testing.T) { // P16.2
	none := [][]api.Edit{nil, {}, make([]api.Edit, 0, 3)}
	for _, a := range none {
		for _, b := range none {
			wantSame(t, a, b, true)
		}
		wantSame(t, a, make([]api.Edit, 1), false)
		wantSame(t, a, make([]api.Edit, 2), false)
	}
	wantSame(t, make([]api.Edit, 2), make([]api.Edit, 2), true)
	wantSame(t, make([]api.Edit, 1), make([]api.Edit, 2), false)
	ways := [][]api.Step{nil, {}, make([]api.Step, 0, 3)}
	kids := [][]api.Node{nil, {}, make([]api.Node, 0, 3)}
	for i, a := range ways {
		for j, b := range ways {
			wantSame(t, []api.Edit{{Kind: 1, Way: a, Node: api.Node{Kids: kids[j]}}}, []api.Edit{{Kind: 1, Way: b, Node: api.Node{Kids: kids[i]}}}, true)
			wantSame(t, []api.Edit{{Kind: 2, Way: a, Old: api.Node{Kids: kids[j]}}}, []api.Edit{{Kind: 2, Way: b, Old: api.Node{Kids: kids[i]}}}, true)
		}
		wantSame(t, []api.Edit{{Kind: 1, Way: a}}, []api.Edit{{Kind: 1, Way: way("")}}, false)
	}
	wantSame(t, sample(), sample(), true)
	wantSame(t, diff.Edits(api.Node{}, example()), diff.Edits(api.Node{}, example()), true)
}

// others is trees that differ from one in one thing each.
func others(n api.Node) []api.Node {
	l := slices.Repeat([]api.Node{n}, 12)
	l[0].Name += "x"
	l[1].Name = "\x00" + n.Name
	l[2].Key += "x"
	l[3].Key += "\x00"
	l[4].Val.Kind++
	l[5].Val.Kind = -7
	l[6].Val.Num++
	l[7].Val.Num += 1 << 32
	l[8].Val.Text += "x"
	l[9].Val.Text += "\x00"
	l[10].Kids = append(slices.Clip(n.Kids), api.Node{})
	l[11].Kids = append([]api.Node{box("0")}, n.Kids...)
	if len(n.Kids) > 0 {
		l = append(l, n, n)
		l[12].Kids = n.Kids[1:]
		l[13].Kids = n.Kids[:len(n.Kids)-1]
	}
	if len(n.Kids) > 1 {
		l = append(l, n)
		l[14].Kids = slices.Clone(n.Kids)
		slices.Reverse(l[14].Kids)
	}
	for i, kid := range n.Kids {
		for _, other := range others(kid) {
			x := n
			x.Kids = slices.Clone(n.Kids)
			x.Kids[i] = other
			l = append(l, x)
		}
	}
	return l
}

// otherWays is ways that differ from one in one thing each.
func otherWays(w []api.Step) [][]api.Step {
	l := [][]api.Step{append(slices.Clip(w), api.Step{}), append(slices.Clip(w), step("a[b]")), append([]api.Step{{}}, w...)}
	for i, s := range w {
		l = append(l, slices.Delete(slices.Clone(w), i, i+1))
		for _, other := range []api.Step{{Name: s.Name + "x", Key: s.Key}, {Name: s.Name, Key: s.Key + "x"}, {Name: s.Name + "\x00", Key: s.Key}, {Name: s.Name, Key: s.Key + "\x00"}, {Name: "x" + s.Name, Key: s.Key}, {Name: s.Name, Key: "x" + s.Key}, {Name: s.Key + "y", Key: s.Name}} {
			x := slices.Clone(w)
			x[i] = other
			l = append(l, x)
		}
	}
	return l
}

// otherEdits is edits that differ from one in one thing each.
func otherEdits(x api.Edit) []api.Edit {
	var l []api.Edit
	for _, kind := range append([]int{1, 2, 3}, otherKinds...) {
		if kind != x.Kind {
			l = append(l, full(kind, x.Way, x.Node, x.Old))
		}
	}
	for _, w := range otherWays(x.Way) {
		l = append(l, full(x.Kind, w, x.Node, x.Old))
	}
	for _, n := range others(x.Node) {
		l = append(l, full(x.Kind, x.Way, n, x.Old))
	}
	for _, n := range others(x.Old) {
		l = append(l, full(x.Kind, x.Way, x.Node, n))
	}
	if showNode(x.Node) != showNode(x.Old) {
		l = append(l, full(x.Kind, x.Way, x.Old, x.Node))
	}
	return l
}

// TestSameOthers: rows that differ in one thing of one edit, at each place.
func TestSameOthers(t *testing.T) { // P16.2
	n := box("b[k]", leaf("c", 1), box("d", leaf("e", 1), text("f", "g")))
	for _, x := range []api.Edit{
		{}, created(way("a", "b[k]"), n), deleted(way("b[k]"), n), replaced(way("a", "b", "c[k]"), leaf("c[k]", 1), leaf("c[k]", 2)), replaced(way("c"), leaf("c", 1), leaf("c", 1)),
		full(api.Create, way("a"), n, n), full(api.Delete, way("a"), n, n), full(api.Replace, nil, n, leaf("a", 1)), full(7, way("a"), n, leaf("a", 1)), full(-1, nil, api.Node{}, n),
	} {
		for _, other := range otherEdits(x) {
			wantSame(t, []api.Edit{x}, []api.Edit{other}, false)
			wantSame(t, []api.Edit{x}, []api.Edit{x, other}, false)
			wantSame(t, []api.Edit{x, other}, []api.Edit{other, x}, false)
			for i := range 3 {
				row := []api.Edit{x, x, x}
				row[i] = other
				wantSame(t, []api.Edit{x, x, x}, row, false)
				wantSame(t, row, slices.Clone(row), true)
			}
		}
		row := []api.Edit{x, x, x}
		for i := range 4 {
			wantSame(t, row, row[:i], i == 3)
			wantSame(t, row, row[3-i:], i == 3)
			wantSame(t, row, slices.Insert(slices.Clone(row), i, x), false)
			wantSame(t, row, slices.Insert(slices.Clone(row), i, api.Edit{}), false)
		}
	}
}

// TestSameAll: edits of many kinds and ways, each of them against each.
func TestSameAll(t *testing.T) { // P16.2
	l := sample()[:200]
	for i, a := range l {
		for j, b := range l {
			wantSame(t, l[i:i+1], l[j:j+1], showEdit(a) == showEdit(b))
		}
	}
}
