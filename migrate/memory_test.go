package migrate_test

import (
	"strconv"
	"strings"
	"testing"

	"tollbar/api"
	"tollbar/migrate"
)

// roomy is a tree that is the same, each of whose lists of kids has room behind it, with nodes in it.
func roomy(n api.Node) api.Node {
	kids := make([]api.Node, 0, len(n.Kids)+2)
	for _, kid := range n.Kids {
		kids = append(kids, roomy(kid))
	}
	for i := len(kids); i < cap(kids); i++ {
		kids[:cap(kids)][i] = box("spare", num("kid", uint64(i)))
	}
	n.Kids = kids
	return n
}

// image is all that a tree has, the room behind its lists too.
func image(n api.Node) string {
	var b strings.Builder
	writeImage(&b, n)
	return b.String()
}

func writeImage(b *strings.Builder, n api.Node) {
	b.WriteString(show(api.Node{Name: n.Name, Key: n.Key, Val: n.Val}) + strconv.Itoa(len(n.Kids)) + "(")
	for _, kid := range n.Kids[:cap(n.Kids)] {
		writeImage(b, kid)
	}
	b.WriteString(")")
}

// memory is all places in memory that are known to be taken.
type memory map[*api.Node]bool

// take tells whether all places of a tree, and of the room behind its lists, were free, and takes them.
func (m memory) take(n api.Node) bool {
	free := true
	kids := n.Kids[:cap(n.Kids)]
	for i := range kids {
		free = free && !m[&kids[i]]
		m[&kids[i]] = true
	}
	for _, kid := range kids {
		free = m.take(kid) && free
	}
	return free
}

// spoilAll writes over all kids of a tree, and over the room behind them.
func spoilAll(n api.Node) {
	kids := n.Kids[:cap(n.Kids)]
	for i := range kids {
		spoilAll(kids[i])
		kids[i] = num("spoilt", 99)
	}
}

// given is a version, and a tree that may be or not.
type given struct {
	version int
	n       api.Node
}

// rows is functions that make trees anew, some of which have a list of kids in common.
func rows() []func() given {
	l := []func() given{
		func() given { // one list of classes' kids, and one of ports' kids
			kids := roomy(class1("x", 1)).Kids
			in := roomy(box("", ref("default", "x"))).Kids
			in = append([]api.Node{{Name: "class", Key: "x", Kids: kids}, {Name: "class", Key: "y", Kids: kids}}, in...)
			return given{1, box("", port("a", in...), port("b", in...))}
		},
		func() given {
			kids := roomy(class2("x", 1, 0)).Kids
			in := []api.Node{{Name: "class", Key: "x", Kids: kids}, {Name: "class", Key: "y", Kids: kids}, ref("default", "x"), enum("kind", "lab"), flag("up", 1)}
			return given{2, box("", port("a", in...), port("b", in...), port("c", in[:3]...))}
		},
		func() given {
			kids := roomy(class3("x", 1, 1)).Kids
			in := []api.Node{{Name: "class", Key: "x", Kids: kids}, {Name: "class", Key: "y", Kids: kids}, ref("default", "x"), rule("r", "y")}
			return given{3, roomy(box("", port("a", in...), port("b", in...), num("wait", 5)))}
		},
	}
	for version := 1; version <= 3; version++ {
		l = append(l,
			func() given { return given{version, roomy(full(version))} },
			func() given { return given{version, roomy(many(version))} },
			func() given { return given{version, roomy(api.Node{})} },
			func() given { return given{version, roomy(box("", ident("system", "a")))} })
		for i := range wrong(version) {
			l = append(l, func() given { return given{version, roomy(wrong(version)[i].n)} })
		}
	}
	return l
}

// answers is the trees that the calls make of a tree.
func answers(g given) []api.Node {
	var l []api.Node
	keep := func(n api.Node, err api.Errno) {
		if err == api.OK {
			l = append(l, n)
		}
	}
	keep(migrate.Up(g.version, g.n))
	keep(migrate.Down(g.version, g.n))
	for to := 0; to <= 4; to++ {
		keep(migrate.To(g.version, to, g.n))
		migrate.Loses(g.version, to, g.n)
	}
	return l
}

// TestNewMemory: no place in memory belongs to two lists of answers and arguments.
func TestNewMemory(t *testing.T) { // P19.1, P19.2, P19.3
	for i, fresh := range rows() {
		g := fresh()
		m := memory{}
		m.take(g.n)
		for k, n := range answers(g) {
			if !m.take(n) {
				t.Errorf("row %d: answer %d shares memory", i, k)
			}
		}
	}
}

// TestArguments: what is handed in stays as it is, its room too, what stands in its room plays no part, and the same is answered again.
func TestArguments(t *testing.T) { // P19.1, P19.2, P19.3
	for i, fresh := range rows() {
		g := fresh()
		was := image(g.n)
		l := answers(g)
		if image(g.n) != was {
			t.Errorf("row %d: what was handed in changed", i)
		}
		again := answers(fresh())
		for k, n := range l {
			if len(again) != len(l) || !same(n, again[k]) {
				t.Errorf("row %d: answer %d is\n%s\nand later another one", i, k, short(show(n)))
			}
			spoilAll(n)
		}
		if image(g.n) != was {
			t.Errorf("row %d: what was handed in changed with an answer", i)
		}
	}
}

// TestKept: what becomes of the argument, and of another answer, is not seen in an answer.
func TestKept(t *testing.T) { // P19.1, P19.2, P19.3
	for i, fresh := range rows() {
		g := fresh()
		l := answers(g)
		want := answers(fresh())
		spoilAll(g.n)
		for k, n := range l {
			if !same(n, want[k]) {
				t.Errorf("row %d: answer %d\n%s\nbecame\n%s", i, k, short(show(want[k])), short(show(n)))
			}
			spoilAll(n)
		}
		for k, n := range answers(fresh()) {
			if !same(n, want[k]) {
				t.Errorf("row %d: answer %d is another one, behind others that were written over", i, k)
			}
		}
	}
}

// TestShared: kids that two nodes have in common are converted in both.
func TestShared(t *testing.T) { // P19.1, P19.2, P19.3
	for _, fresh := range rows()[:3] {
		g := fresh()
		wantAll(t, g.version, g.n)
	}
}
