package edits_test

import (
	"bytes"
	"encoding/binary"
	"math/big"
	"regexp"
	"slices"
	"strconv"
	"strings"

	"tollbar/api"
)

// This is the chapter once more, with nothing of the layers below: edits are written straight as bytes, and bytes are those of edits just if these are written so.

// ident is what a name in a way is like.
var ident = regexp.MustCompile(`\A[a-z][a-z0-9-]{0,11}\z`)

// wayText is the text of a way, or none.
func wayText(way []api.Step) string {
	var b strings.Builder
	for _, s := range way {
		if !ident.MatchString(s.Name) || s.Key != "" && !ident.MatchString(s.Key) {
			return ""
		}
		b.WriteString("/" + s.Name)
		if s.Key != "" {
			b.WriteString("[" + s.Key + "]")
		}
	}
	if len(way) > 6 {
		return ""
	}
	return b.String()
}

// flat is all nodes of a tree.
func flat(n api.Node) []api.Node {
	l := []api.Node{n}
	for _, kid := range n.Kids {
		l = append(l, flat(kid)...)
	}
	return l
}

// modelCheck is what the chapter says of one edit.
func modelCheck(x api.Edit) bool {
	if x.Kind != 1 && x.Kind != 2 && x.Kind != 3 || wayText(x.Way) == "" {
		return false
	}
	if x.Kind == 2 && showNode(x.Node) != showNode(api.Node{}) || x.Kind == 1 && showNode(x.Old) != showNode(api.Node{}) {
		return false
	}
	return !slices.ContainsFunc(append(flat(x.Node), flat(x.Old)...), func(n api.Node) bool {
		if n.Val.Kind == 0 {
			return n.Val.Num > 0 || n.Val.Text > ""
		}
		return n.Val.Kind < 1 || n.Val.Kind > 255 || n.Val.Num > 0 && n.Val.Text > "" || len(n.Kids) > 0
	})
}

// item is one in bytes.
func item(tag uint64, content ...[]byte) []byte {
	b := slices.Concat(content...)
	return append(binary.AppendUvarint(binary.AppendUvarint(nil, tag), uint64(len(b))), b...)
}

// nodeItem is a node in bytes.
func nodeItem(tag uint64, n api.Node) []byte {
	b := item(0, []byte(n.Name))
	if n.Key != "" {
		b = append(b, item(2, []byte(n.Key))...)
	}
	if n.Val.Kind != 0 && n.Val.Text == "" {
		b = append(b, item(4, []byte{byte(n.Val.Kind), 0}, new(big.Int).SetUint64(n.Val.Num).Bytes())...)
	} else if n.Val.Kind != 0 {
		b = append(b, item(4, []byte{byte(n.Val.Kind), 1}, []byte(n.Val.Text))...)
	}
	for _, kid := range n.Kids {
		b = append(b, nodeItem(7, kid)...)
	}
	return item(tag, b)
}

// editItem is an edit in bytes.
func editItem(x api.Edit) []byte {
	way := item(2, []byte(wayText(x.Way)))
	switch x.Kind {
	case 1:
		return item(3, way, nodeItem(3, x.Node))
	case 2:
		return item(5, way, nodeItem(5, x.Old))
	}
	return item(7, way, nodeItem(3, x.Node), nodeItem(5, x.Old))
}

// levels is how many a tree has.
func levels(n api.Node) int {
	deepest := 0
	for _, kid := range n.Kids {
		deepest = max(deepest, levels(kid))
	}
	return deepest + 1
}

// modelPut is what the chapter says of edits.
func modelPut(l []api.Edit) ([]byte, api.Errno) {
	var b []byte
	deep := false
	for _, x := range l {
		if !modelCheck(x) {
			return nil, 1
		}
		// An edit is at depth 1, its nodes at 2; a node's name is one further in than the node, at 6 at most.
		deep = deep || levels(x.Node) > 4 || levels(x.Old) > 4
		b = append(b, editItem(x)...)
	}
	if deep || len(b) > 8192 {
		return nil, 14
	}
	return b, 0
}

// piece is an item as it stands in bytes.
type piece struct {
	tag  uint64
	data []byte
	kids []piece
}

// number is the one that bytes begin with, and how many it has.
func number(b []byte) (uint64, int, api.Errno) {
	x, size := binary.Uvarint(b)
	switch {
	case size == 0 && len(b) < 10:
		return 0, 0, 10
	case size <= 0:
		return 0, 0, 14
	case size > 1 && b[size-1] == 0:
		return 0, 0, 11
	}
	return x, size, 0
}

// pieces is the items of bytes.
func pieces(b []byte, depth int) ([]piece, api.Errno) {
	var l []piece
	for len(b) > 0 {
		tag, size, err := number(b)
		if err != 0 {
			return nil, err
		}
		b = b[size:]
		length, size, err := number(b)
		if err != 0 {
			return nil, err
		}
		b = b[size:]
		if length > uint64(len(b)) {
			return nil, 10
		}
		if depth > 6 {
			return nil, 13
		}
		p := piece{tag: tag, data: b[:length]}
		b = b[length:]
		if tag%2 == 1 {
			if p.kids, err = pieces(p.data, depth+1); err != 0 {
				return nil, err
			}
		}
		l = append(l, p)
	}
	return l, 0
}

// first is the first of some items with a tag, or an empty one.
func first(l []piece, tag uint64) piece {
	for _, p := range l {
		if p.tag == tag {
			return p
		}
	}
	return piece{}
}

// guess is the edits that items may be of; nothing is asked of them.
func guess(l []piece) []api.Edit {
	var edits []api.Edit
	for _, p := range l {
		x := api.Edit{Kind: int(p.tag / 2 % 4), Way: guessWay(string(first(p.kids, 2).data))}
		if x.Kind != 2 {
			x.Node = guessNode(first(p.kids, 3))
		}
		if x.Kind != 1 {
			x.Old = guessNode(first(p.kids, 5))
		}
		edits = append(edits, x)
	}
	return edits
}

func guessWay(s string) []api.Step {
	var way []api.Step
	for _, s := range strings.Split(s, "/")[1:] {
		way = append(way, step(s))
	}
	return way
}

func guessNode(p piece) api.Node {
	n := api.Node{Name: string(first(p.kids, 0).data), Key: string(first(p.kids, 2).data)}
	if b := first(p.kids, 4).data; len(b) > 1 {
		n.Val.Kind = int(b[0])
		if b[1] == 1 {
			n.Val.Text = string(b[2:])
		} else {
			n.Val.Num = new(big.Int).SetBytes(b[2:]).Uint64()
		}
	}
	for _, kid := range p.kids {
		if kid.tag == 7 {
			n.Kids = append(n.Kids, guessNode(kid))
		}
	}
	return n
}

// modelGet is what the chapter says of bytes.
func modelGet(b []byte) ([]api.Edit, api.Errno) {
	if len(b) > 8192 {
		return nil, 14
	}
	l, err := pieces(b, 1)
	if err != 0 {
		return nil, err
	}
	edits := guess(l)
	if again, err := modelPut(edits); err != 0 || !bytes.Equal(again, b) {
		return nil, 11
	}
	return edits, 0
}

// showWay is a way as a text; no other way has the same one.
func showWay(way []api.Step) string {
	var b strings.Builder
	for _, s := range way {
		b.WriteString("/" + strconv.Quote(s.Name))
		if s.Key != "" {
			b.WriteString("[" + strconv.Quote(s.Key) + "]")
		}
	}
	return b.String()
}

// showNode is a tree as a text; no other tree has the same one.
func showNode(n api.Node) string {
	var b strings.Builder
	writeNode(&b, n)
	return b.String()
}

func writeNode(b *strings.Builder, n api.Node) {
	b.WriteString(showWay([]api.Step{{Name: n.Name, Key: n.Key}}))
	if n.Val != (api.Val{}) {
		b.WriteString("=" + strconv.Itoa(n.Val.Kind) + "," + strconv.FormatUint(n.Val.Num, 10) + "," + strconv.Quote(n.Val.Text))
	}
	if len(n.Kids) > 0 {
		b.WriteString("(")
		for _, kid := range n.Kids {
			writeNode(b, kid)
		}
		b.WriteString(")")
	}
}

// show is edits as a text; no others have the same one.
func show(l []api.Edit) string {
	var b strings.Builder
	for _, x := range l {
		b.WriteString(strconv.Itoa(x.Kind) + " " + showWay(x.Way) + " " + showNode(x.Node) + " <- " + showNode(x.Old) + "\n")
	}
	return b.String()
}

// short is the beginning of a text.
func short(s string) string { return s[:min(len(s), 500)] }
