package unpack_test

import (
	"bytes"
	"encoding/binary"
	"regexp"
	"slices"
	"strings"

	"tollbar/api"
	"tollbar/valid"
)

// This is the chapter once more, from the bytes on, with nothing of the layers below but what valid.Check finds in the tree as a whole.

// row is a kid as the schema's chapter has it: its name, its tag, its type and bounds, and the rows of a list.
type row struct {
	name string
	tag  uint64
	kind int
	min  uint64
	max  uint64
	kids []row
}

// rows is those of a version, by hand.
func rows(version int) []row {
	limit := "limit"
	if version == 3 {
		limit = "depth"
	}
	class := []row{{"quantum", 2, api.Uint, 1500, 100000, nil}, {"rate", 4, api.Rate, 0, 1000000, nil}, {"burst", 6, api.Uint, 1500, 1000000, nil}, {limit, 8, api.Uint, 1, 64, nil}}
	rule := []row{{"low", 2, api.Uint, 0, 65535, nil}, {"high", 4, api.Uint, 0, 65535, nil}, {"class", 6, api.Ref, 0, 0, nil}}
	if version > 1 {
		class = append(class, row{"shaped", 10, api.Bool, 0, 0, nil})
	}
	port := []row{{"up", 2, api.Bool, 0, 0, nil}, {"class", 5, api.None, 0, 0, class}, {"rule", 7, api.None, 0, 0, rule}, {"default", 8, api.Ref, 0, 0, nil}}
	if version > 1 {
		port = append(port, row{"kind", 10, api.Enum, 0, 0, nil})
	}
	root := []row{{"system", 2, api.Ident, 0, 0, nil}, {"port", 5, api.None, 0, 0, port}}
	if version > 2 {
		root = append(root, row{"wait", 6, api.Uint, 1, 1000, nil})
	}
	return root
}

// ident is what a name is like.
var ident = regexp.MustCompile(`\A[a-z][a-z0-9-]{0,11}\z`)

// taken is the value of a leaf's bytes; false: there is none.
func taken(r row, b []byte) (api.Val, bool) {
	one := len(b) == 1
	switch r.kind {
	case api.Bool:
		if one && b[0] < 2 {
			return api.Val{Kind: api.Bool, Num: uint64(b[0])}, true
		}
	case api.Enum:
		if one && b[0] < 3 {
			return api.Val{Kind: api.Enum, Text: []string{"edge", "core", "lab"}[b[0]]}, true
		}
	case api.Ident, api.Ref:
		return api.Val{Kind: r.kind, Text: string(b)}, ident.Match(b)
	case api.Uint, api.Rate:
		if len(b) > 3 || len(b) > 0 && b[0] == 0 {
			return api.Val{}, false
		}
		var x uint64
		for _, c := range b {
			x = x*256 + uint64(c)
		}
		return api.Val{Kind: r.kind, Num: x}, r.min <= x && x <= r.max
	}
	return api.Val{}, false
}

// piece is an item as it stands in bytes, and where.
type piece struct {
	at   int
	tag  uint64
	data []byte
	kids []piece
}

// number is the one that bytes begin with.
func number(b []byte) (uint64, int, api.Errno) {
	x, size := binary.Uvarint(b)
	switch {
	case size == 0 && len(b) < 10:
		return 0, 0, api.ErrShort
	case size <= 0:
		return 0, 0, api.ErrBig
	case size > 1 && b[size-1] == 0:
		return 0, 0, api.ErrForm
	}
	return x, size, api.OK
}

// pieces is those of b from one offset up to another one.
func pieces(b []byte, begin, end, depth int) ([]piece, api.Errno, int) {
	var l []piece
	for begin < end {
		p := piece{at: begin}
		tag, size, err := number(b[begin:end])
		if err != api.OK {
			return nil, err, begin
		}
		p.tag = tag
		begin += size
		length, size, err := number(b[begin:end])
		if err != api.OK {
			return nil, err, begin
		}
		begin += size
		if length > uint64(end-begin) {
			return nil, api.ErrShort, begin
		}
		if depth > 6 {
			return nil, api.ErrDeep, p.at
		}
		next := begin + int(length)
		if tag%2 == 0 {
			p.data = b[begin:next]
		} else if p.kids, err, size = pieces(b, begin, next, depth+1); err != api.OK {
			return nil, err, size
		}
		l = append(l, p)
		begin = next
	}
	return l, api.OK, 0
}

// nodes is those of pieces, as rows have them; else what is wrong first, and where.
func nodes(rs []row, l []piece) ([]api.Node, api.Errno, int) {
	out := []api.Node{}
	for i, p := range l {
		place := slices.IndexFunc(rs, func(r row) bool { return r.tag == p.tag })
		if place < 0 {
			return nil, api.ErrName, p.at
		}
		r := rs[place]
		list := r.kids != nil
		twin := i > 0 && l[i-1].tag == p.tag
		if i > 0 && l[i-1].tag > p.tag || twin && !list {
			return nil, api.ErrForm, p.at
		}
		if !list {
			v, ok := taken(r, p.data)
			if !ok {
				return nil, api.ErrValue, p.at
			}
			out = append(out, api.Node{Name: r.name, Val: v})
			continue
		}
		if len(p.kids) == 0 || p.kids[0].tag != 0 {
			return nil, api.ErrForm, p.at
		}
		key := p.kids[0].data
		if !ident.Match(key) {
			return nil, api.ErrValue, p.at
		}
		if twin && bytes.Compare(l[i-1].kids[0].data, key) >= 0 {
			return nil, api.ErrForm, p.at
		}
		kids, err, at := nodes(r.kids, p.kids[1:])
		if err != api.OK {
			return nil, err, at
		}
		out = append(out, api.Node{Name: r.name, Key: string(key), Kids: kids})
	}
	return out, api.OK, 0
}

// sorted puts kids in the order of their names and keys.
func sorted(kids []api.Node) {
	for _, kid := range kids {
		sorted(kid.Kids)
	}
	slices.SortFunc(kids, func(a, b api.Node) int {
		return strings.Compare(a.Name+" "+a.Key, b.Name+" "+b.Key)
	})
}

// model is what the chapter says of bytes.
func model(b []byte) (int, api.Node, api.Errno, int) {
	x, size, err := number(b)
	if err != api.OK {
		return 0, api.Node{}, err, 0
	}
	if x < 1 || x > 3 {
		return 0, api.Node{}, api.Version, 0
	}
	version := int(x)
	if len(b)-size > 8192 {
		return 0, api.Node{}, api.ErrBig, size
	}
	l, err, at := pieces(b, size, len(b), 1)
	if err != api.OK {
		return 0, api.Node{}, err, at
	}
	kids, err, at := nodes(rows(version), l)
	if err != api.OK {
		return 0, api.Node{}, err, at
	}
	sorted(kids)
	n := api.Node{Kids: kids}
	if err, _ := valid.Check(version, n); err != api.OK {
		return 0, api.Node{}, err, 0
	}
	return version, n, api.OK, 0
}
