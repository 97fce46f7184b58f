package edits_test

import (
	"slices"
	"strconv"
	"strings"
	"testing"

	"tollbar/api"
	"tollbar/edits"
)

// roomy is a tree that is the same, each of whose lists of kids has room behind it, with nodes in it.
func roomy(n api.Node) api.Node {
	kids := make([]api.Node, 0, len(n.Kids)+2)
	for _, kid := range n.Kids {
		kids = append(kids, roomy(kid))
	}
	for i := len(kids); i < cap(kids); i++ {
		kids[:cap(kids)][i] = box("spare", leaf("kid", uint64(i)))
	}
	n.Kids = kids
	return n
}

// roomyEdits is edits that are the same, with room behind each list, and something in it.
func roomyEdits(l []api.Edit) []api.Edit {
	var r []api.Edit
	for _, x := range l {
		w := append(slices.Clone(x.Way), way("spare", "room[k]")...)
		r = append(r, full(x.Kind, w[:len(x.Way)], roomy(x.Node), roomy(x.Old)))
	}
	return append(r, created(way("spare"), leaf("spare", 1)))[:len(r)]
}

// imageOf is all that edits have, the room behind their lists too.
func imageOf(l []api.Edit) string {
	var b strings.Builder
	b.WriteString(strconv.Itoa(len(l)))
	for _, x := range l[:cap(l)] {
		b.WriteString(" " + strconv.Itoa(x.Kind) + " " + strconv.Itoa(len(x.Way)) + showWay(x.Way[:cap(x.Way)]))
		writeImage(&b, x.Node)
		writeImage(&b, x.Old)
	}
	return b.String()
}

func writeImage(b *strings.Builder, n api.Node) {
	b.WriteString(showNode(api.Node{Name: n.Name, Key: n.Key, Val: n.Val}) + strconv.Itoa(len(n.Kids)) + "(")
	for _, kid := range n.Kids[:cap(n.Kids)] {
		writeImage(b, kid)
	}
	b.WriteString(")")
}

// spoil writes over all kids of a tree, and over the room behind them.
func spoil(n api.Node) {
	kids := n.Kids[:cap(n.Kids)]
	for i := range kids {
		spoil(kids[i])
		kids[i] = leaf("spoilt", 99)
	}
}

// spoilEdits writes over edits, and over the room behind them.
func spoilEdits(l []api.Edit) {
	for _, x := range l[:cap(l)] {
		for i := range x.Way[:cap(x.Way)] {
			x.Way[:cap(x.Way)][i] = step("spoilt[s]")
		}
		spoil(x.Node)
		spoil(x.Old)
	}
	for i := range l[:cap(l)] {
		l[:cap(l)][i] = created(way("spoilt"), leaf("spoilt", 99))
	}
}

// spoilBytes writes over bytes, and over the room behind them.
func spoilBytes(b []byte) {
	for i := range b[:cap(b)] {
		b[:cap(b)][i] = 0xee
	}
}

// rows is lists of edits that may be put, and some that may not, made anew.
func rows() [][]api.Edit {
	n := box("a", leaf("b", 1), box("c[k]", text("d", "x")))
	l := append(some(), []api.Edit{created(way("a"), n), deleted(way("a"), n), replaced(way("a"), n, box("b", n.Kids...))})
	return append(l, nil, []api.Edit{created(nil, n)}, []api.Edit{deleted(way("a"), chain(7, n))}, []api.Edit{created(way("a"), with("a", api.Val{Kind: 256})), deleted(way("a"), n)}, []api.Edit{created(way("a"), box(strings.Repeat("a", 9000)))})
}

// TestPutMemory: what Put and Check are given stays as it is, its room plays no part, and the bytes are nobody else's.
func TestPutMemory(t *testing.T) { // P18.1
	for i := range rows() {
		l := roomyEdits(rows()[i])
		was := imageOf(l)
		ok := edits.Check(l)
		b, err := edits.Put(l)
		if plain, errPlain := edits.Put(rows()[i]); string(plain) != string(b) || errPlain != err || edits.Check(rows()[i]) != ok {
			t.Errorf("row %d: room plays a part", i)
		}
		if imageOf(l) != was {
			t.Errorf("row %d changed", i)
		}
		want := string(b)
		again, _ := edits.Put(l)
		spoilBytes(again)
		if string(b) != want || imageOf(l) != was {
			t.Errorf("row %d: bytes share memory", i)
		}
		spoilEdits(l)
		if string(b) != want {
			t.Errorf("row %d: bytes changed with the edits", i)
		}
	}
}

// places is all places in memory that are known to be taken.
type places struct {
	nodes map[*api.Node]bool
	steps map[*api.Step]bool
	edits map[*api.Edit]bool
}

// take tells whether all places of edits, and of the room behind their lists, were free, and takes them.
func (p places) take(l []api.Edit) bool {
	free := true
	l = l[:cap(l)]
	for i := range l {
		free = free && !p.edits[&l[i]]
		p.edits[&l[i]] = true
		w := l[i].Way[:cap(l[i].Way)]
		for k := range w {
			free = free && !p.steps[&w[k]]
			p.steps[&w[k]] = true
		}
		free = p.takeNode(l[i].Node) && free
		free = p.takeNode(l[i].Old) && free
	}
	return free
}

func (p places) takeNode(n api.Node) bool {
	free := true
	kids := n.Kids[:cap(n.Kids)]
	for i := range kids {
		free = free && !p.nodes[&kids[i]]
		p.nodes[&kids[i]] = true
		free = p.takeNode(kids[i]) && free
	}
	return free
}

// TestGetMemory: what Get is given stays as it is, its room plays no part, and no two lists that it answers share memory.
func TestGetMemory(t *testing.T) { // P18.2
	var all [][]byte
	for _, l := range rows() {
		b, _ := modelPut(l)
		all = append(all, b, append(slices.Clone(b), 5), append(slices.Clone(b), 5, 0), slices.Concat(b, b))
	}
	taken := places{map[*api.Node]bool{}, map[*api.Step]bool{}, map[*api.Edit]bool{}}
	for i, b := range all {
		given := append(slices.Clone(b), editItem(fine()[0])...)
		was := string(given)
		l, err := edits.Get(given[:len(b)])
		plain, errPlain := edits.Get(slices.Clip(b))
		if err != errPlain || show(l) != show(plain) {
			t.Errorf("row %d: room plays a part", i)
		}
		if string(given) != was {
			t.Errorf("row %d changed", i)
		}
		if !taken.take(l) || !taken.take(plain) {
			t.Errorf("row %d: answers share memory", i)
		}
		want := show(l)
		spoilEdits(plain)
		if show(l) != want || string(given) != was {
			t.Errorf("row %d: changed with another answer", i)
		}
		spoilBytes(given)
		if show(l) != want {
			t.Errorf("row %d: changed with the bytes", i)
		}
	}
}

// TestSame: the same is answered again, whatever was asked ahead of it.
func TestSame(t *testing.T) { // P18.1, P18.2
	answers := func() string {
		var s strings.Builder
		for _, l := range rows() {
			b, err := edits.Put(l)
			again, errAgain := edits.Get(b)
			_, errBad := edits.Get(append(b, 3, 0))
			s.WriteString(strconv.Quote(string(b)) + err.Error() + show(again) + errAgain.Error() + errBad.Error() + strconv.FormatBool(edits.Check(l)))
		}
		return s.String()
	}
	if want := answers(); answers() != want {
		t.Error("the answers differ")
	}
}
