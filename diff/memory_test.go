package diff_test

import (
	"math/rand"
	"slices"
	"strconv"
	"strings"
	"testing"

	"tollbar/api"
	"tollbar/diff"
	"tollbar/valid"
)

// roomy is a tree that is the same, each of whose lists of kids has room behind it, with nodes in it.
func roomy(n api.Node) api.Node {
	kids := make([]api.Node, 0, len(n.Kids)+2)
	for _, kid := range n.Kids {
		kids = append(kids, roomy(kid))
	}
	for i := len(kids); i < cap(kids); i++ {
		kids[:cap(kids)][i] = box("spare", leaf("kid", uint64(i)))
	}
	n.Kids = kids
	return n
}

// roomyEdits is edits that are the same, with room behind each list, and something in it.
func roomyEdits(l []api.Edit) []api.Edit {
	var r []api.Edit
	for _, x := range l {
		w := append(slices.Clone(x.Way), way("spare", "room[k]")...)
		r = append(r, full(x.Kind, w[:len(x.Way)], roomy(x.Node), roomy(x.Old)))
	}
	return append(r, full(api.Create, way("spare"), leaf("spare", 1), leaf("spare", 2)))[:len(r)]
}

// clipped is edits that are the same, without room behind them and their ways.
func clipped(l []api.Edit) []api.Edit {
	l = slices.Clip(slices.Clone(l))
	for i := range l {
		l[i].Way = slices.Clip(l[i].Way)
	}
	return l
}

// image is all that a tree has, the room behind its lists too.
func image(n api.Node) string {
	var b strings.Builder
	writeImage(&b, n)
	return b.String()
}

func writeImage(b *strings.Builder, n api.Node) {
	writeNode(b, api.Node{Name: n.Name, Key: n.Key, Val: n.Val})
	b.WriteString(strconv.Itoa(len(n.Kids)) + "(")
	for _, kid := range n.Kids[:cap(n.Kids)] {
		writeImage(b, kid)
	}
	b.WriteString(")")
}

// imageOf is all that edits have, the room behind their lists too.
func imageOf(l []api.Edit) string {
	var b strings.Builder
	b.WriteString(strconv.Itoa(len(l)))
	for _, x := range l[:cap(l)] {
		b.WriteString(" " + strconv.Itoa(x.Kind) + " " + strconv.Itoa(len(x.Way)) + showWay(x.Way[:cap(x.Way)]))
		writeImage(&b, x.Node)
		writeImage(&b, x.Old)
	}
	return b.String()
}

// memory is all places in memory that are known to be taken.
type memory struct {
	edits map[*api.Edit]bool
	steps map[*api.Step]bool
	nodes map[*api.Node]bool
}

func newMemory() memory {
	return memory{map[*api.Edit]bool{}, map[*api.Step]bool{}, map[*api.Node]bool{}}
}

// take tells whether all places of some edits, and of the room behind their lists, were free, and takes them.
func (m memory) take(l []api.Edit) bool {
	free := taken(m.edits, l)
	for _, x := range l[:cap(l)] {
		free = taken(m.steps, x.Way) && m.takeTree(x.Node) && m.takeTree(x.Old) && free
	}
	return free
}

// takeTree does the same with a tree.
func (m memory) takeTree(n api.Node) bool {
	free := taken(m.nodes, n.Kids)
	for _, kid := range n.Kids[:cap(n.Kids)] {
		free = m.takeTree(kid) && free
	}
	return free
}

// taken does the same with one list alone.
func taken[T any](places map[*T]bool, l []T) bool {
	free := true
	l = l[:cap(l)]
	for i := range l {
		free = free && !places[&l[i]]
		places[&l[i]] = true
	}
	return free
}

// pairs is functions that make two trees anew, with edits of each kind between them, some of which have memory in common.
func pairs() []func() (a, b api.Node) {
	other := func() api.Node {
		return box("", port("a", box("class[be]", leaf("depth", 9)), class("new", 1), box("default"), rule("r", "new", 10, 11)), box("port[aa]", leaf("x", 1)), port("b", text("default", "y")), leaf("wait", 1))
	}
	return []func() (a, b api.Node){
		func() (a, b api.Node) { return roomy(example()), roomy(other()) },
		func() (a, b api.Node) { return roomy(other()), roomy(example()) },
		func() (a, b api.Node) { return roomy(example()), roomy(example()) },
		func() (a, b api.Node) { return api.Node{}, roomy(example()) },
		func() (a, b api.Node) { return roomy(example()), api.Node{} },
		func() (a, b api.Node) { n := roomy(example()); return n, n },
		func() (a, b api.Node) { n := roomy(example()); return n, box("x", n.Kids[:2]...) },
		func() (a, b api.Node) { n := roomy(example()); return box("", n.Kids[1:]...), n },
		func() (a, b api.Node) { // lists that several nodes have in common
			kids := roomy(box("", leaf("a", 1), box("b", leaf("c", 1)))).Kids
			return box("", box("p", kids...), box("q", kids...), leaf("r", 1), box("s", box("t", kids...))), box("", leaf("p", 1), box("r", kids...), box("s", box("t", kids[:1]...), box("u", kids...)))
		},
		func() (a, b api.Node) { // leaves with room for kids
			return roomy(box("", leaf("a", 1), leaf("b", 1), leaf("c", 1))), roomy(box("", leaf("a", 2), leaf("b", 1), leaf("d", 1)))
		},
	}
}

// TestNewMemory: no place in memory belongs to two lists of answers and arguments.
func TestNewMemory(t *testing.T) { // P16.1, P16.2
	for i, fresh := range pairs() {
		a, b := fresh()
		m := newMemory()
		m.takeTree(a)
		m.takeTree(b)
		there, back := diff.Edits(a, b), diff.Edits(b, a)
		for k, l := range [][]api.Edit{there, back, diff.Edits(a, b), diff.Inverse(there), diff.Inverse(there), diff.Inverse(back)} {
			if !m.take(l) {
				t.Errorf("pair %d: answer %d shares memory", i, k)
			}
		}
	}
	// Edits that have lists in common, with one another and within themselves.
	w := append(way("a", "b"), way("spare")...)
	kids := roomy(box("", leaf("a", 1), box("b", leaf("c", 1)))).Kids
	n := box("b", box("x", kids...), box("y", kids...))
	n = api.Node{Name: "b", Kids: append(n.Kids, api.Node{Name: "z", Kids: n.Kids[:1]})}
	var l []api.Edit
	for kind := range 5 {
		l = append(l, full(kind, w[:2], n, n), full(kind, w[:1], n, box("b", kids...)), full(kind, w[:0], leaf("b", 1), n))
	}
	m := newMemory()
	m.take(l)
	if !m.take(diff.Inverse(l)) || !m.take(diff.Inverse(l)) {
		t.Error("an inverse shares memory")
	}
}

// TestGrownWays: a way may be gone on with, and no other edit's way is changed by that.
func TestGrownWays(t *testing.T) { // P16.1, P16.2
	for i, fresh := range pairs() {
		a, b := fresh()
		there := diff.Edits(a, b)
		for _, l := range [][]api.Edit{there, diff.Inverse(there)} {
			was := show(l)
			for _, x := range l {
				_ = append(x.Way, step("grown"))
			}
			if show(l) != was {
				t.Errorf("pair %d:\n%sbecame\n%s", i, short(was), short(show(l)))
			}
		}
	}
}

// TestArguments: what is handed in stays as it is, its room too, what stands in its room plays no part, and the same is answered again.
func TestArguments(t *testing.T) { // P16.1, P16.2
	for i, fresh := range pairs() {
		a, b := fresh()
		imageA, imageB := image(a), image(b)
		l := diff.Edits(a, b)
		if want := modelEdits(tableOf(a), tableOf(b)); show(l) != show(want) || show(diff.Edits(a, b)) != show(want) {
			t.Errorf("pair %d: the edits are\n%swant\n%s", i, short(show(l)), short(show(want)))
		}
		if image(a) != imageA || image(b) != imageB {
			t.Errorf("pair %d: a tree changed", i)
		}
		for k, plain := range [][]api.Edit{l, sample(), append(slices.Clone(l), sample()...)} {
			l, other := roomyEdits(plain), roomyEdits(plain)
			was := imageOf(l)
			wantInverse(t, l, modelInverse(l)...)
			wantInverse(t, l, modelInverse(l)...)
			for _, w := range someWays() {
				room := append(slices.Clone(w), way("spare", "room")...)
				steps := slices.Clone(room)
				wantUnder(t, l, room[:len(w)], diff.Under(clipped(plain), w))
				if !slices.Equal(room, steps) {
					t.Errorf("%q is now %q", steps, room)
				}
			}
			for _, x := range clipped(plain) {
				wantUnder(t, l, append(x.Way, step("spare")), 0)
			}
			wantSame(t, l, other, true)
			wantSame(t, l, clipped(plain), true)
			if len(l) > 0 {
				wantSame(t, l, other[1:], false)
			}
			if imageOf(l) != was || imageOf(other) != was {
				t.Errorf("pair %d: edits %d changed", i, k)
			}
		}
	}
}

// TestKept: what becomes of the arguments is not seen in an answer.
func TestKept(t *testing.T) { // P16.1, P16.2
	for i, fresh := range pairs() {
		a, b := fresh()
		l := diff.Edits(a, b)
		back := diff.Inverse(l)
		was, wasBack := show(l), show(back)
		spoil(a)
		spoil(b)
		if show(l) != was {
			t.Errorf("pair %d:\n%sbecame\n%s", i, short(was), short(show(l)))
		}
		for k := range l {
			clear(l[k].Way)
			spoil(l[k].Node)
			spoil(l[k].Old)
		}
		clear(l)
		if show(back) != wasBack {
			t.Errorf("pair %d: the inverse\n%sbecame\n%s", i, short(wasBack), short(show(back)))
		}
	}
}

// spoil writes over all kids of a tree.
func spoil(n api.Node) {
	for i := range n.Kids {
		spoil(n.Kids[i])
		n.Kids[i] = leaf("spoilt", 99)
	}
}

// grown is a tree that is right, of some steps, as a source of numbers has it.
func grown(pick func(n int) int, some []api.Step, s api.Step, depth int) api.Node {
	n := api.Node{Name: s.Name, Key: s.Key}
	if depth == 0 || pick(3) == 0 {
		if pick(3) > 0 {
			n.Val = api.Val{Kind: 1 + pick(3), Num: uint64(pick(2)), Text: []string{"", "a"}[pick(2)]}
		}
		return n
	}
	for _, s := range some {
		if pick(2) == 0 {
			n.Kids = append(n.Kids, grown(pick, some, s, depth-1))
		}
	}
	return n
}

// mutated is a tree some of whose nodes are other ones, or gone, or new.
func mutated(pick func(n int) int, some []api.Step, n api.Node, depth int) api.Node {
	var kids []api.Node
	if n.Val.Kind != 0 {
		return n
	}
	for _, s := range some {
		i := slices.IndexFunc(n.Kids, func(kid api.Node) bool { return kid.Name == s.Name && kid.Key == s.Key })
		switch what := pick(12); {
		case what == 0: // none
		case what == 1 && depth > 0:
			kids = append(kids, grown(pick, some, s, depth-1))
		case i >= 0:
			kids = append(kids, mutated(pick, some, n.Kids[i], depth-1))
		}
	}
	n.Kids = kids
	return n
}

// TestMany: trees that are made at random, and ones that differ little from them.
func TestMany(t *testing.T) { // P16.1, P16.2, P16.3
	random := rand.New(rand.NewSource(16))
	some := []api.Step{{}, step("a"), step("a[b]"), step("a[\x80]"), step("aa"), step("b"), step("b[a]")}
	for range 1500 {
		a := grown(random.Intn, some, step("r"), random.Intn(5))
		b := mutated(random.Intn, some, a, 4)
		if random.Intn(4) == 0 {
			b = grown(random.Intn, some, step("s"), random.Intn(5))
		}
		if a.Val.Kind != 0 || b.Val.Kind != 0 {
			continue
		}
		wantModel(t, a, b)
		l := diff.Edits(a, b)
		wantInverse(t, l, modelInverse(l)...)
		wantUnder(t, l, nil, len(l))
		for _, s := range some {
			count := 0
			for _, x := range l {
				if x.Way[0] == s {
					count++
				}
			}
			wantUnder(t, l, []api.Step{s}, count)
		}
		wantSame(t, l, diff.Edits(a, b), true)
		wantSame(t, l, diff.Edits(a, a), len(l) == 0)
	}
}

// TestValidTrees: trees that may be, of which the edits make one another.
func TestValidTrees(t *testing.T) { // P16.1, P16.3
	var trees []api.Node
	for _, n := range []api.Node{
		{}, example(), box("", leaf("wait", 5)), box("", with("system", api.Val{Kind: api.Ident, Text: "a"})), box("", port("a", class("be", 1), text("default", "be"))),
		box("", port("a", class("be", 2), text("default", "be"), rule("r", "be", 1, 2), rule("s", "be", 3, 4)), port("b", class("be", 1), text("default", "be"))),
		box("", port("b", class("x", 1), class("y", 1), text("default", "y")), port("c", class("x", 1), text("default", "x"))),
	} {
		if !valid.May(3, n) {
			t.Fatalf("%s may not be", showNode(n))
		}
		trees = append(trees, n)
	}
	for _, a := range trees {
		for _, b := range trees {
			wantModel(t, a, b)
		}
	}
}

// TestWrongTrees: every call returns for trees that no edits are promised of too, and changes nothing.
func TestWrongTrees(t *testing.T) {
	wrong := []api.Node{
		leaf("a", 1), box("", leaf("b", 1), leaf("a", 1)), box("", leaf("a", 1), leaf("a", 2)), box("", box("a", leaf("b", 1)), box("a", leaf("b", 2)), leaf("a", 3)), {Val: api.Val{Kind: 1}, Kids: []api.Node{leaf("a", 1)}},
		{Val: api.Val{Num: 1, Text: "a"}}, box("", api.Node{Name: "a", Val: api.Val{Kind: 1}, Kids: []api.Node{leaf("a", 1)}}), box("", api.Node{Name: "a", Val: api.Val{Num: 1}}), {}, example(),
	}
	for _, a := range wrong {
		for _, b := range wrong {
			a, b := roomy(a), roomy(b)
			imageA, imageB := image(a), image(b)
			l := diff.Edits(a, b)
			diff.Inverse(l)
			diff.Under(l, way("a"))
			m := newMemory()
			m.takeTree(a)
			m.takeTree(b)
			if image(a) != imageA || image(b) != imageB || !m.take(l) || !diff.Same(l, diff.Edits(a, b)) {
				t.Errorf("%s, %s", showNode(a), showNode(b))
			}
		}
	}
}

// chain is a tree of so many levels below its root, each with one kid.
func chain(levels int, end api.Node) api.Node {
	for range levels - 1 {
		end = box("a[k]", end)
	}
	return box("", end)
}

// TestDepth: trees that differ at the end of many levels alone.
func TestDepth(t *testing.T) { // P16.1, P16.2, P16.3
	for _, levels := range []int{1, 2, 6, 7, 8, 100, 2000} {
		at := func(s string) []api.Step { return append(slices.Repeat(way("a[k]"), levels-1), step(s)) }
		a := chain(levels, leaf("z", 1))
		for _, c := range []struct {
			b    api.Node
			want []api.Edit
		}{
			{chain(levels, leaf("z", 1)), nil},
			{chain(levels, leaf("z", 2)), []api.Edit{replaced(at("z"), leaf("z", 2), leaf("z", 1))}},
			{chain(levels, box("z")), []api.Edit{deleted(at("z"), leaf("z", 1)), created(at("z"), box("z"))}},
			{chain(levels, leaf("y", 1)), []api.Edit{created(at("y"), leaf("y", 1)), deleted(at("z"), leaf("z", 1))}},
			{chain(levels+1, leaf("z", 1)), []api.Edit{created(at("a[k]"), box("a[k]", leaf("z", 1))), deleted(at("z"), leaf("z", 1))}},
		} {
			wantEdits(t, a, c.b, c.want...)
		}
	}
}

// TestDeepest has as many levels as the document allows.
func TestDeepest(t *testing.T) { // P16.1, P16.2, P16.3
	const levels = 1<<16 - 1
	a, b := chain(levels, leaf("z", 1)), chain(levels, leaf("z", 2))
	down := append(slices.Repeat(way("a[k]"), levels-1), step("z"))
	for _, c := range []struct {
		a, b api.Node
		want []api.Edit
	}{
		{a, a, nil}, {api.Node{}, a, []api.Edit{created(way("a[k]"), a.Kids[0])}}, {a, api.Node{}, []api.Edit{deleted(way("a[k]"), a.Kids[0])}},
		{a, box("", leaf("a[k]", 1)), []api.Edit{deleted(way("a[k]"), a.Kids[0]), created(way("a[k]"), leaf("a[k]", 1))}},
		{a, b, []api.Edit{replaced(down, leaf("z", 2), leaf("z", 1))}},
	} {
		l := diff.Edits(c.a, c.b)
		if !diff.Same(l, c.want) || !diff.Same(diff.Inverse(diff.Inverse(l)), l) || diff.Under(l, way("a[k]")) != len(l) {
			t.Errorf("%d edits, want %d", len(l), len(c.want))
		}
	}
}

// TestWidth has many kids of one node.
func TestWidth(t *testing.T) { // P16.1, P16.2, P16.3
	const size = 120000
	var a, b api.Node
	var want []api.Edit
	for i := range size {
		s := api.Step{Name: "k", Key: strconv.Itoa(1000000 + i)}
		was, is := api.Node{Name: s.Name, Key: s.Key, Val: api.Val{Kind: 1, Num: 1}}, api.Node{Name: s.Name, Key: s.Key, Val: api.Val{Kind: 1, Num: 2}}
		switch i % 7 {
		case 0, 1:
			a.Kids = append(a.Kids, was)
			want = append(want, deleted([]api.Step{s}, was))
		case 2:
			b.Kids = append(b.Kids, is)
			want = append(want, created([]api.Step{s}, is))
		case 3:
			a.Kids, b.Kids = append(a.Kids, was), append(b.Kids, is)
			want = append(want, replaced([]api.Step{s}, is, was))
		default:
			a.Kids, b.Kids = append(a.Kids, was), append(b.Kids, was)
		}
	}
	l := diff.Edits(a, b)
	if show(l) != show(want) || !diff.Same(l, want) || diff.Under(l, nil) != len(want) || show(diff.Inverse(l)) != show(modelInverse(want)) {
		t.Errorf("%d edits, want %d", len(l), len(want))
	}
}

// FuzzEdits is for go test -fuzz; without that it takes what is added here alone.
func FuzzEdits(f *testing.F) {
	for i := range 40 {
		seed := make([]byte, 200)
		rand.New(rand.NewSource(int64(i))).Read(seed)
		f.Add(seed)
	}
	some := way("", "a", "a[k]", "b[\xff]", "c")
	f.Fuzz(func(t *testing.T, seed []byte) {
		pick := func(n int) int { // the next byte, 0 behind the last one
			if len(seed) == 0 {
				return 0
			}
			next := int(seed[0]) % n
			seed = seed[1:]
			return next
		}
		a := grown(pick, some, api.Step{}, 4)
		b := mutated(pick, some, a, 4)
		if a.Val.Kind == 0 && b.Val.Kind == 0 {
			wantModel(t, a, b)
		}
	})
}
