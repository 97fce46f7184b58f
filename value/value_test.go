package value_test

import (
	"bytes"
	"math"
	"math/big"
	"reflect"
	"regexp"
	"slices"
	"strconv"
	"strings"
	"testing"

	"tollbar/api"
	"tollbar/spec"
	"tollbar/value"
)

// The calls of the chapter, with just these signatures.
var (
	_ func(spec.Spec, api.Val) bool                = value.Right
	_ func(spec.Spec, api.Val) string              = value.Text
	_ func(spec.Spec, string) (api.Val, api.Errno) = value.Parse
	_ func(spec.Spec, api.Val) []byte              = value.Data
	_ func(spec.Spec, []byte) (api.Val, api.Errno) = value.Take
)

// kinds is those of api, and some that there are none of.
var kinds = []int{api.None, api.Uint, api.Rate, api.Bool, api.Enum, api.Ident, api.Ref, api.Ref + 1, api.Ref + 2, 100, 257, math.MaxInt, -1, -2, -api.Ref, math.MinInt}

// place is a leaf of a version.
type place struct {
	version int
	way     string
	s       spec.Spec
}

// leaves is each leaf of each version.
func leaves(t *testing.T) []place {
	t.Helper()
	var l []place
	var walk func(version int, way string, s spec.Spec)
	walk = func(version int, way string, s spec.Spec) {
		if s.Kind == spec.Leaf {
			l = append(l, place{version, way, s})
		}
		for _, kid := range s.Kids {
			walk(version, strings.TrimPrefix(way+"/"+kid.Name, "/"), kid)
		}
	}
	for version := 1; version <= 3; version++ {
		root, err := spec.Root(version)
		if err != api.OK {
			t.Fatalf("Root(%d): %v", version, err)
		}
		walk(version, "", root)
	}
	if len(l) != 10+12+13 {
		t.Fatalf("%d leaves", len(l))
	}
	return l
}

// leavesOf is those of some types.
func leavesOf(t *testing.T, types ...int) []place {
	t.Helper()
	return slices.DeleteFunc(leaves(t), func(p place) bool { return !slices.Contains(types, p.s.Type) })
}

// at is the leaf of a version at a way.
func at(t *testing.T, version int, way string) spec.Spec {
	t.Helper()
	s, err := spec.At(version, strings.Split(way, "/"))
	if err != api.OK || s.Kind != spec.Leaf {
		t.Fatalf("version %d, %s: %v, %v", version, way, s, err)
	}
	return s
}

// Specs that no version has.
var (
	anyUint = spec.Spec{Name: "any", Kind: spec.Leaf, Type: api.Uint, Max: math.MaxUint64}
	anyRate = spec.Spec{Name: "any", Kind: spec.Leaf, Type: api.Rate, Max: math.MaxUint64}
	aBool   = spec.Spec{Name: "bool", Kind: spec.Leaf, Type: api.Bool}
	anIdent = spec.Spec{Name: "ident", Kind: spec.Leaf, Type: api.Ident}
	aRef    = spec.Spec{Name: "ref", Kind: spec.Leaf, Type: api.Ref}
)

// enum is a leaf that is one of names.
func enum(names ...string) spec.Spec {
	return spec.Spec{Name: "enum", Kind: spec.Leaf, Type: api.Enum, Names: names}
}

// many is so many names, each another one.
func many(n int) []string {
	var l []string
	for i := range n {
		l = append(l, "n"+strconv.Itoa(i))
	}
	return l
}

// noLeaves is Specs that have no values.
func noLeaves(t *testing.T) []spec.Spec {
	t.Helper()
	l := []spec.Spec{{}, {Type: api.Uint, Max: math.MaxUint64}, {Type: api.Bool}}
	for version := 1; version <= 3; version++ {
		root, _ := spec.Root(version)
		port, err := spec.At(version, []string{"port"})
		class, _ := spec.At(version, []string{"port", "class"})
		rule, _ := spec.At(version, []string{"port", "rule"})
		if err != api.OK || root.Kind != spec.Box || port.Kind != spec.List {
			t.Fatalf("version %d: %v, %v, %v", version, root, port, err)
		}
		l = append(l, root, port, class, rule)
	}
	for _, kind := range []int{spec.Box, spec.List, 0, 4, 100, -1, math.MaxInt, math.MinInt} {
		for _, of := range kinds {
			l = append(l, spec.Spec{Name: "a", Kind: kind, Type: of, Max: math.MaxUint64, Names: []string{"", "a", "edge"}, Most: 4})
		}
	}
	for _, of := range kinds {
		if of < api.Uint || of > api.Ref {
			l = append(l, spec.Spec{Name: "a", Kind: spec.Leaf, Type: of, Max: math.MaxUint64, Names: []string{"", "a", "edge"}, Must: true})
		}
	}
	return l
}

// specs is all leaves that differ, and Specs of other bounds and names, some with fields that don't apply to their types.
func specs(t *testing.T) []spec.Spec {
	t.Helper()
	var l []spec.Spec
	for _, p := range leaves(t) {
		if !slices.ContainsFunc(l, func(s spec.Spec) bool { return reflect.DeepEqual(s, p.s) }) {
			l = append(l, p.s)
		}
	}
	for _, of := range []int{api.Uint, api.Rate} {
		for _, b := range [][2]uint64{{0, math.MaxUint64}, {0, 0}, {1, 1}, {7, 7}, {8, 7}, {0, 255}, {256, 1000}, {1, math.MaxUint64 - 1}, {math.MaxUint64, math.MaxUint64}, {math.MaxUint64, 0}, {1 << 32, 1 << 56}} {
			l = append(l, spec.Spec{Name: "n", Kind: spec.Leaf, Type: of, Min: b[0], Max: b[1], Names: []string{"", "a"}})
		}
	}
	l = append(l, enum(), enum(""), enum("a", "b", "a", "b", "c"), enum("A", "", "true", "0", "1", "\xff", "a b", strings.Repeat("x", 100)), enum(many(256)...))
	for _, of := range []int{api.Bool, api.Enum, api.Ident, api.Ref} {
		l = append(l, spec.Spec{Name: "o", Kind: spec.Leaf, Type: of, Min: 1, Max: 0, Names: []string{"edge", "Edge", "a-very-long-name"}, Must: true, Most: 1, Kids: []spec.Spec{anyUint}})
		l = append(l, spec.Spec{Name: "o", Kind: spec.Leaf, Type: of, Min: 2, Max: 9})
	}
	return append(l, noLeaves(t)...)
}

// nums is numbers, a Spec's bounds and those next to them among them.
func nums(s spec.Spec) []uint64 {
	l := []uint64{s.Min - 1, s.Min, s.Min + 1, s.Max - 1, s.Max, s.Max + 1}
	for _, x := range []uint64{0, 1, 2, 3, 7, 8, 9, 10, 64, 255, 256, 257, 999, 1000, 1001, 1500, 2000, 65535, 65536, 1000000, 1001000, 2000000, 1 << 24, 1 << 32, 1<<56 - 1, 1 << 56, 1 << 63, math.MaxUint64 / 1000 * 1000, math.MaxUint64 / 1000000 * 1000000, math.MaxUint64 - 1, math.MaxUint64} {
		if !slices.Contains(l, x) {
			l = append(l, x)
		}
	}
	return l
}

// texts is what values may have, and what they may not.
var texts = []string{
	"", "a", "z", "be", "gold-1", "a-", "a0", "a--", "abcdefghijkl", "a12345678901", "z-----------", "abcdefghijklm", "a123456789012",
	"A", "aB", "-", "-a", "0", "1", "2", "0a", "1a", "a_b", "a.b", "a b", " a", "a ", "a\n", "\x00", "a\x00", "\u00e4", "a\u00e4", "\uff41", "\xff", "a\xff", "a`", "a{",
	"edge", "core", "lab", "EDGE", "Edge", "edg", "edges", "edge ", "edge core", "true", "false", "True", "TRUE", "t", "yes", "n0", "n255", "n256", "a-very-long-name", strings.Repeat("x", 100),
}

var (
	digits  = regexp.MustCompile(`^(0|[1-9][0-9]*)$`)
	letters = regexp.MustCompile(`^[a-z][a-z0-9-]{0,11}$`)
)

// rightly tells what the chapter says of a value.
func rightly(s spec.Spec, v api.Val) bool {
	if s.Kind != spec.Leaf || v.Kind != s.Type {
		return false
	}
	switch s.Type {
	case api.Uint, api.Rate:
		return v.Num >= s.Min && v.Num <= s.Max && v.Text == ""
	case api.Bool:
		return (v.Num == 0 || v.Num == 1) && v.Text == ""
	case api.Enum:
		return slices.Contains(s.Names, v.Text) && v.Num == 0
	case api.Ident, api.Ref:
		return letters.MatchString(v.Text) && v.Num == 0
	}
	return false
}

// textOf is a value's text, as the chapter tells it.
func textOf(s spec.Spec, v api.Val) string {
	if !rightly(s, v) {
		return ""
	}
	shown := new(big.Int).SetUint64(v.Num).String()
	switch {
	case s.Type == api.Bool:
		return []string{"false", "true"}[v.Num]
	case s.Type != api.Uint && s.Type != api.Rate:
		return v.Text
	case s.Type == api.Uint || v.Num == 0:
		return shown
	}
	if count, ok := strings.CutSuffix(shown, "000000"); ok {
		return count + "m"
	}
	if count, ok := strings.CutSuffix(shown, "000"); ok {
		return count + "k"
	}
	return shown
}

// dataOf is a value's bytes, as the chapter tells them.
func dataOf(s spec.Spec, v api.Val) []byte {
	if !rightly(s, v) {
		return nil
	}
	switch s.Type {
	case api.Uint, api.Rate:
		return new(big.Int).SetUint64(v.Num).Bytes()
	case api.Bool:
		return []byte{byte(v.Num)}
	case api.Enum:
		return []byte{byte(slices.Index(s.Names, v.Text))}
	}
	return []byte(v.Text)
}

// found is the one value of some that is right and of which a function tells what is wanted.
func found(s spec.Spec, l []api.Val, is func(v api.Val) bool) (api.Val, api.Errno) {
	for _, v := range l {
		if v.Kind = s.Type; rightly(s, v) && is(v) {
			return v, api.OK
		}
	}
	return api.Val{}, api.ErrValue
}

// readNumber is a text's number, with a unit or without one.
func readNumber(s string, units bool) []api.Val {
	size := int64(1)
	if count, ok := strings.CutSuffix(s, "k"); ok && units {
		s, size = count, 1000
	} else if count, ok := strings.CutSuffix(s, "m"); ok && units {
		s, size = count, 1000000
	}
	if !digits.MatchString(s) {
		return nil
	}
	x, _ := new(big.Int).SetString(s, 10)
	if x.Mul(x, big.NewInt(size)); !x.IsUint64() {
		return nil
	}
	return []api.Val{{Num: x.Uint64()}}
}

// parsed is a text's value, as the chapter tells it.
func parsed(s spec.Spec, text string) (api.Val, api.Errno) {
	if s.Type == api.Uint || s.Type == api.Rate {
		return found(s, readNumber(text, s.Type == api.Rate), func(api.Val) bool { return true })
	}
	return found(s, []api.Val{{Num: 0}, {Num: 1}, {Text: text}}, func(v api.Val) bool { return textOf(s, v) == text })
}

// taken is the value of bytes, as the chapter tells it.
func taken(s spec.Spec, b []byte) (api.Val, api.Errno) {
	l := []api.Val{{Num: 0}, {Num: 1}, {Text: string(b)}}
	if x := new(big.Int).SetBytes(b); x.IsUint64() {
		l = append(l, api.Val{Num: x.Uint64()})
	}
	for _, name := range s.Names {
		l = append(l, api.Val{Text: name})
	}
	return found(s, l, func(v api.Val) bool { return bytes.Equal(dataOf(s, v), b) })
}

func wantRight(t *testing.T, s spec.Spec, v api.Val, want bool) {
	t.Helper()
	if is := value.Right(s, v); is != want {
		t.Errorf("Right(%.200v, %#v) = %v, want %v", s, v, is, want)
	}
}

func wantText(t *testing.T, s spec.Spec, v api.Val, want string) {
	t.Helper()
	if text := value.Text(s, v); text != want {
		t.Errorf("Text(%.200v, %#v) = %.60q, want %.60q", s, v, text, want)
	}
}

func wantData(t *testing.T, s spec.Spec, v api.Val, want []byte) {
	t.Helper()
	if b := value.Data(s, v); !bytes.Equal(b, want) {
		t.Errorf("Data(%.200v, %#v) = %.60v, want %.60v", s, v, b, want)
	}
}

func wantParse(t *testing.T, s spec.Spec, text string, want api.Val, wanted api.Errno) {
	t.Helper()
	if v, err := value.Parse(s, text); v != want || err != wanted {
		t.Errorf("Parse(%.200v, %.60q) = %#v, %v, want %#v, %v", s, text, v, err, want, wanted)
	}
}

func wantTake(t *testing.T, s spec.Spec, b []byte, want api.Val, wanted api.Errno) {
	t.Helper()
	if v, err := value.Take(s, b); v != want || err != wanted {
		t.Errorf("Take(%.200v, %.60v) = %#v, %v, want %#v, %v", s, b, v, err, want, wanted)
	}
}

// wantValue asks all of a value that is valid, and whose text and bytes are given.
func wantValue(t *testing.T, s spec.Spec, v api.Val, text string, b []byte) {
	t.Helper()
	wantRight(t, s, v, true)
	wantText(t, s, v, text)
	wantData(t, s, v, b)
	wantParse(t, s, text, v, api.OK)
	wantTake(t, s, b, v, api.OK)
}

// wantNone asks all of a value that is not valid.
func wantNone(t *testing.T, s spec.Spec, v api.Val) {
	t.Helper()
	wantRight(t, s, v, false)
	wantText(t, s, v, "")
	wantData(t, s, v, nil)
}

// wantNoText asks for texts that no value has, wantNoData for bytes.
func wantNoText(t *testing.T, s spec.Spec, texts ...string) {
	t.Helper()
	for _, text := range texts {
		wantParse(t, s, text, api.Val{}, api.ErrValue)
	}
}

func wantNoData(t *testing.T, s spec.Spec, rows ...[]byte) {
	t.Helper()
	for _, b := range rows {
		wantTake(t, s, b, api.Val{}, api.ErrValue)
	}
}

// least is a number's bytes, the greatest first, none of a 0.
func least(x uint64) []byte { return new(big.Int).SetUint64(x).Bytes() }

func TestExample(t *testing.T) { // P8.1, P8.2
	for version := 1; version <= 3; version++ {
		wantValue(t, at(t, version, "port/class/rate"), api.Val{Kind: api.Rate, Num: 2000}, "2k", []byte{7, 208})
	}
}

// bounds is the least and the greatest number of each leaf that has some.
var bounds = map[string][2]uint64{
	"port/class/quantum": {1500, 100000},
	"port/class/rate":    {0, 1000000},
	"port/class/burst":   {1500, 1000000},
	"port/class/limit":   {1, 64},
	"port/class/depth":   {1, 64},
	"port/rule/low":      {0, 65535},
	"port/rule/high":     {0, 65535},
	"wait":               {1, 1000},
}

func TestRightNumbers(t *testing.T) { // P8.1
	for _, p := range leavesOf(t, api.Uint, api.Rate) {
		b, ok := bounds[p.way]
		if !ok {
			t.Fatalf("version %d has a number %s", p.version, p.way)
		}
		for _, x := range []uint64{b[0] - 1, b[0], b[0] + 1, b[1] - 1, b[1], b[1] + 1, 0, 1, math.MaxUint64, math.MaxUint64 - 1, 1 << 63, b[0] + 1<<32, b[1] + 1<<32, (b[0] + b[1]) / 2} {
			v := api.Val{Kind: p.s.Type, Num: x}
			is := x >= b[0] && x <= b[1]
			wantRight(t, p.s, v, is)
			if !is {
				wantNone(t, p.s, v)
			}
			for _, text := range []string{"a", " ", "0", strconv.FormatUint(x, 10), "\x00", "\xff"} {
				v.Text = text
				wantNone(t, p.s, v)
			}
		}
	}
}

func TestOtherBounds(t *testing.T) { // P8.1, P8.2
	for _, of := range []int{api.Uint, api.Rate} {
		leaf := func(least, most uint64) spec.Spec {
			return spec.Spec{Kind: spec.Leaf, Type: of, Min: least, Max: most}
		}
		v := func(x uint64) api.Val { return api.Val{Kind: of, Num: x} }
		wantValue(t, leaf(0, math.MaxUint64), v(math.MaxUint64), "18446744073709551615", bytes.Repeat([]byte{255}, 8))
		wantValue(t, leaf(math.MaxUint64, math.MaxUint64), v(math.MaxUint64), "18446744073709551615", bytes.Repeat([]byte{255}, 8))
		wantNone(t, leaf(math.MaxUint64, math.MaxUint64), v(math.MaxUint64-1))
		wantNone(t, leaf(math.MaxUint64, math.MaxUint64), v(0))
		wantValue(t, leaf(0, 0), v(0), "0", nil)
		wantNone(t, leaf(0, 0), v(1))
		wantValue(t, leaf(7, 7), v(7), "7", []byte{7})
		wantNone(t, leaf(7, 7), v(6))
		wantNone(t, leaf(7, 7), v(8))
		for _, x := range []uint64{0, 6, 7, 8, 9, math.MaxUint64} {
			wantNone(t, leaf(8, 7), v(x))
		}
		wantNoText(t, leaf(8, 7), "7", "8", "0", "")
		wantNoData(t, leaf(8, 7), []byte{7}, []byte{8}, nil)
		wantNone(t, leaf(1, math.MaxUint64), v(0))
		wantNoText(t, leaf(1, math.MaxUint64), "0")
		wantNoData(t, leaf(1, math.MaxUint64), nil, []byte{}, []byte{0})
	}
}

func TestRightBools(t *testing.T) { // P8.1
	for _, p := range leavesOf(t, api.Bool) {
		wantValue(t, p.s, api.Val{Kind: api.Bool}, "false", []byte{0})
		wantValue(t, p.s, api.Val{Kind: api.Bool, Num: 1}, "true", []byte{1})
		for _, x := range []uint64{2, 3, 255, 256, 257, 1 << 32, 1<<32 + 1, 1 << 63, math.MaxUint64 - 1, math.MaxUint64} {
			wantNone(t, p.s, api.Val{Kind: api.Bool, Num: x})
		}
		for _, text := range []string{"true", "false", "0", "1", "a", " "} {
			wantNone(t, p.s, api.Val{Kind: api.Bool, Text: text})
			wantNone(t, p.s, api.Val{Kind: api.Bool, Num: 1, Text: text})
		}
	}
}

// TestBoolsBounds holds that a Bool has none.
func TestBoolsBounds(t *testing.T) { // P8.1
	for _, b := range [][2]uint64{{0, 0}, {1, 1}, {2, 9}, {1, 0}, {0, math.MaxUint64}} {
		s := spec.Spec{Kind: spec.Leaf, Type: api.Bool, Min: b[0], Max: b[1], Names: []string{"", "on"}}
		wantValue(t, s, api.Val{Kind: api.Bool}, "false", []byte{0})
		wantValue(t, s, api.Val{Kind: api.Bool, Num: 1}, "true", []byte{1})
		wantNone(t, s, api.Val{Kind: api.Bool, Num: 2})
		wantNone(t, s, api.Val{Kind: api.Bool, Text: "on"})
	}
}

func TestRightEnums(t *testing.T) { // P8.1
	for _, p := range leavesOf(t, api.Enum) {
		for i, name := range []string{"edge", "core", "lab"} {
			wantValue(t, p.s, api.Val{Kind: api.Enum, Text: name}, name, []byte{byte(i)})
		}
		for _, name := range []string{"edge", "core", "lab", "none", "", "Edge", "LAB", "edg", "edges", " edge", "edge ", "edge core lab", "edge\x00", "kind", "a", "0", "1"} {
			if !slices.Contains([]string{"edge", "core", "lab"}, name) {
				wantNone(t, p.s, api.Val{Kind: api.Enum, Text: name})
			}
			for _, x := range []uint64{1, 2, 3, 1 << 32, 1 << 63, math.MaxUint64} {
				wantNone(t, p.s, api.Val{Kind: api.Enum, Num: x, Text: name})
			}
		}
	}
}

func TestOtherEnums(t *testing.T) { // P8.1, P8.2
	wantNone(t, enum(), api.Val{Kind: api.Enum})
	wantNoText(t, enum(), "", "a", "0")
	wantNoData(t, enum(), nil, []byte{0}, []byte{1}, []byte{255})
	v := func(text string) api.Val { return api.Val{Kind: api.Enum, Text: text} }
	wantValue(t, enum("", "a"), v(""), "", []byte{0})
	wantNone(t, enum(""), api.Val{Kind: api.Enum, Num: 1})
	wantNoText(t, enum("a"), "")
	twice := enum("a", "b", "a", "b", "c")
	wantValue(t, twice, v("a"), "a", []byte{0})
	wantValue(t, twice, v("b"), "b", []byte{1})
	wantValue(t, twice, v("c"), "c", []byte{4})
	wantNoData(t, twice, []byte{2}, []byte{3}, []byte{5})
	odd := []string{"A", "\xff", "a b", "\u00e4", "true", "0", strings.Repeat("x", 1000)}
	for i, name := range odd {
		wantValue(t, enum(odd...), v(name), name, []byte{byte(i)})
	}
	full := many(256)
	for i, name := range full {
		wantValue(t, enum(full...), v(name), name, []byte{byte(i)})
		wantNoData(t, enum(full[:i]...), []byte{byte(i)})
	}
	// Names that a list has room for, but hasn't, are none.
	wantNone(t, enum(full[:5]...), v("n5"))
	wantNoText(t, enum(full[:5]...), "n5")
	wantNoData(t, enum(full[:5]...), []byte{5})
}

func TestRightNames(t *testing.T) { // P8.1, P8.2
	for _, p := range leavesOf(t, api.Ident, api.Ref) {
		for _, name := range []string{"a", "z", "be", "a0", "a9", "a-", "gold-1", "abcdefghijkl", "a12345678901", "z-----------", "true", "edge"} {
			wantValue(t, p.s, api.Val{Kind: p.s.Type, Text: name}, name, []byte(name))
			for _, x := range []uint64{1, 2, 1 << 32, math.MaxUint64} {
				wantNone(t, p.s, api.Val{Kind: p.s.Type, Num: x, Text: name})
			}
		}
		for _, name := range []string{"", "abcdefghijklm", "a123456789012", strings.Repeat("a", 1000), "A", "0", "9", "-", "1a", "-a", "aB", "a_b", "a.b", "a b", " a", "a ", "a\n", "a\x00", "\u00e4", "a\u00e4", "\xff", "a\xff"} {
			wantNone(t, p.s, api.Val{Kind: p.s.Type, Text: name})
			wantNone(t, p.s, api.Val{Kind: p.s.Type, Num: 1, Text: name})
			wantNoText(t, p.s, name)
			wantNoData(t, p.s, []byte(name))
		}
	}
}

// TestNamesCharacters has each byte in the first place, and in each later one.
func TestNamesCharacters(t *testing.T) { // P8.1, P8.2
	for _, s := range []spec.Spec{anIdent, aRef} {
		for c := range 256 {
			first := c >= 'a' && c <= 'z'
			later := first || c >= '0' && c <= '9' || c == '-'
			for size := 1; size <= 13; size++ {
				for i := range size {
					b := bytes.Repeat([]byte{'q'}, size)
					b[i] = byte(c)
					v := api.Val{Kind: s.Type, Text: string(b)}
					if is := size <= 12 && (first || later && i > 0); is {
						wantValue(t, s, v, string(b), b)
						continue
					}
					wantNone(t, s, v)
					wantNoText(t, s, string(b))
					wantNoData(t, s, b)
				}
			}
		}
	}
}

// good is a valid value for a Spec.
func good(s spec.Spec) api.Val {
	v := api.Val{Kind: s.Type}
	switch s.Type {
	case api.Uint, api.Rate:
		v.Num = s.Min
	case api.Enum:
		v.Text = s.Names[0]
	case api.Ident, api.Ref:
		v.Text = "a"
	}
	return v
}

func TestOtherKinds(t *testing.T) { // P8.1
	for _, p := range leaves(t) {
		for _, kind := range kinds {
			v := good(p.s)
			wantRight(t, p.s, v, true)
			if kind == p.s.Type {
				continue
			}
			v.Kind = kind
			wantNone(t, p.s, v)
			for _, text := range []string{"", "a", "edge", "true"} {
				for _, x := range []uint64{0, 1, 2, 64, 1500} {
					wantNone(t, p.s, api.Val{Kind: kind, Num: x, Text: text})
				}
			}
		}
	}
}

func TestNoLeaf(t *testing.T) { // P8.1, P8.2
	for _, s := range noLeaves(t) {
		for _, kind := range kinds {
			for _, text := range []string{"", "a", "edge", "true", "1"} {
				for _, x := range []uint64{0, 1, 2, 64, 1500, math.MaxUint64} {
					wantNone(t, s, api.Val{Kind: kind, Num: x, Text: text})
				}
			}
		}
		wantNoText(t, s, "", "0", "1", "1500", "2k", "true", "false", "edge", "a", "port")
		wantNoData(t, s, nil, []byte{}, []byte{0}, []byte{1}, []byte{2}, []byte{7, 208}, []byte("a"), []byte("edge"))
	}
}

func TestTextOfNumbers(t *testing.T) { // P8.1
	for x, want := range map[uint64]string{0: "0", 1: "1", 999: "999", 1000: "1000", 1500: "1500", 2000: "2000", 1000000: "1000000", math.MaxUint64: "18446744073709551615"} {
		wantText(t, anyUint, api.Val{Kind: api.Uint, Num: x}, want)
	}
	for x, want := range map[uint64]string{0: "0", 1: "1", 999: "999", 1000: "1k", 1001: "1001", 1500: "1500", 2000: "2k", 999000: "999k", 1000000: "1m", 1001000: "1001k", 2000000: "2m", 18446744073709551000: "18446744073709551k", math.MaxUint64: "18446744073709551615"} {
		wantText(t, anyRate, api.Val{Kind: api.Rate, Num: x}, want)
	}
}

// noNumbers is texts that no number has.
var noNumbers = []string{
	"", " ", "00", "01", "02000", "007", "+1", "-1", "+0", "-0", " 1", "1 ", "1 0", "\t1", "1\n", "1\x00", "1_000", "1,000", "1.0", "1.", ".1", "1e3", "0x1", "0b1", "0o1", "a", "one", "true", "\uff11", "\u0661", "\xff",
	"18446744073709551616", "18446744073709551617", "18446744073709552000", "28446744073709551615", "36893488147419103232", "99999999999999999999", "100000000000000000000", strings.Repeat("9", 1000), strings.Repeat("0", 1000),
}

func TestParseNumbers(t *testing.T) { // P8.1
	for _, x := range []uint64{0, 1, 9, 10, 255, 256, 999, 1000, 1500, 65535, 1000000, 1 << 32, 1 << 63, math.MaxUint64 - 1, math.MaxUint64} {
		wantParse(t, anyUint, strconv.FormatUint(x, 10), api.Val{Kind: api.Uint, Num: x}, api.OK)
		wantParse(t, anyRate, strconv.FormatUint(x, 10), api.Val{Kind: api.Rate, Num: x}, api.OK)
	}
	wantNoText(t, anyUint, noNumbers...)
	wantNoText(t, anyUint, "1k", "1m", "0k", "0m", "k", "m", "1K", "1M", "1000k")
	for _, p := range leavesOf(t, api.Uint, api.Rate) {
		b := bounds[p.way]
		wantNoText(t, p.s, noNumbers...)
		wantNoText(t, p.s, strconv.FormatUint(b[1]+1, 10), "18446744073709551615")
		if b[0] > 0 {
			wantNoText(t, p.s, strconv.FormatUint(b[0]-1, 10), "0")
		}
		for _, x := range []uint64{b[0], b[0] + 1, b[1] - 1, b[1]} {
			wantParse(t, p.s, strconv.FormatUint(x, 10), api.Val{Kind: p.s.Type, Num: x}, api.OK)
		}
	}
}

func TestParseRates(t *testing.T) { // P8.1
	for text, x := range map[string]uint64{
		"0": 0, "0k": 0, "0m": 0, "2000": 2000, "2k": 2000, "1k": 1000, "1m": 1000000, "1000k": 1000000, "1000000": 1000000, "1001k": 1001000, "3m": 3000000, "3000k": 3000000,
		"18446744073709551k": 18446744073709551000, "18446744073709m": 18446744073709000000, "18446744073709551615": math.MaxUint64,
	} {
		wantParse(t, anyRate, text, api.Val{Kind: api.Rate, Num: x}, api.OK)
		for version := 1; version <= 3; version++ {
			want, err := api.Val{Kind: api.Rate, Num: x}, api.OK
			if x > 1000000 {
				want, err = api.Val{}, api.ErrValue
			}
			wantParse(t, at(t, version, "port/class/rate"), text, want, err)
		}
	}
	wantNoText(t, anyRate, noNumbers...)
	for _, text := range noNumbers {
		wantNoText(t, anyRate, text+"k", text+"m")
	}
	wantNoText(t, anyRate, "k", "m", "1K", "1M", "1g", "1kk", "1km", "1mk", "k1", "1k ", "1 k", "1k0", "18446744073709552k", "18446744073709551616k", "18446744073710m", "18446744073709551615k", "18446744073709551615m", "36893488147419104k")
	for version := 1; version <= 3; version++ {
		wantNoText(t, at(t, version, "port/class/rate"), "1000001", "1001k", "2m")
	}
	for text, ok := range map[string]bool{"1k": false, "2k": true, "3k": true, "4k": false, "1999": false, "3001": false, "0m": false} {
		want, err := api.Val{}, api.ErrValue
		if ok {
			want, err = api.Val{Kind: api.Rate, Num: uint64(text[0]-'0') * 1000}, api.OK
		}
		wantParse(t, spec.Spec{Kind: spec.Leaf, Type: api.Rate, Min: 2000, Max: 3000}, text, want, err)
	}
}

func TestParseBools(t *testing.T) { // P8.1
	for _, p := range leavesOf(t, api.Bool) {
		wantParse(t, p.s, "true", api.Val{Kind: api.Bool, Num: 1}, api.OK)
		wantParse(t, p.s, "false", api.Val{Kind: api.Bool, Num: 0}, api.OK)
		wantNoText(t, p.s, "", "0", "1", "2", "True", "TRUE", "False", "FALSE", "t", "f", "T", "F", "yes", "no", "on", "off", "tru", "truee", "fals", "falsee", " true", "true ", "false ", "true\x00", "truefalse", "edge", "\xff")
	}
}

func TestParseEnums(t *testing.T) { // P8.1
	for _, p := range leavesOf(t, api.Enum) {
		for _, name := range []string{"edge", "core", "lab"} {
			wantParse(t, p.s, name, api.Val{Kind: api.Enum, Text: name}, api.OK)
			wantNoText(t, p.s, strings.ToUpper(name), strings.ToUpper(name[:1])+name[1:], name[1:], name[:2], name+"s", " "+name, name+" ", name+"\x00")
		}
		wantNoText(t, p.s, "", "0", "1", "2", "none", "kind", "edgecore", "edge core", "true", "\xff")
	}
}

func TestParseNames(t *testing.T) { // P8.1
	for _, p := range leavesOf(t, api.Ident, api.Ref) {
		for _, text := range texts {
			want, err := api.Val{}, api.ErrValue
			if letters.MatchString(text) {
				want, err = api.Val{Kind: p.s.Type, Text: text}, api.OK
			}
			wantParse(t, p.s, text, want, err)
		}
		wantParse(t, p.s, "gold-1", api.Val{Kind: p.s.Type, Text: "gold-1"}, api.OK)
		wantNoText(t, p.s, "", "1a", "Gold", "abcdefghijklm")
	}
}

func TestDataOfNumbers(t *testing.T) { // P8.2
	for _, c := range []struct {
		x    uint64
		want []byte
	}{
		{0, nil}, {1, []byte{1}}, {255, []byte{255}}, {256, []byte{1, 0}}, {2000, []byte{7, 208}}, {65535, []byte{255, 255}}, {65536, []byte{1, 0, 0}},
		{1000000, []byte{15, 66, 64}}, {1 << 56, []byte{1, 0, 0, 0, 0, 0, 0, 0}}, {1<<56 - 1, bytes.Repeat([]byte{255}, 7)}, {math.MaxUint64, bytes.Repeat([]byte{255}, 8)},
	} {
		for _, s := range []spec.Spec{anyUint, anyRate} {
			v := api.Val{Kind: s.Type, Num: c.x}
			wantData(t, s, v, c.want)
			wantTake(t, s, c.want, v, api.OK)
		}
	}
	for _, p := range leavesOf(t, api.Uint, api.Rate) {
		b := bounds[p.way]
		for _, x := range []uint64{b[0], b[0] + 1, b[1] - 1, b[1]} {
			v := api.Val{Kind: p.s.Type, Num: x}
			wantData(t, p.s, v, least(x))
			wantTake(t, p.s, least(x), v, api.OK)
		}
	}
}

func TestTakeNumbers(t *testing.T) { // P8.2
	for _, s := range []spec.Spec{anyUint, anyRate} {
		wantTake(t, s, nil, api.Val{Kind: s.Type}, api.OK)
		wantTake(t, s, []byte{}, api.Val{Kind: s.Type}, api.OK)
		wantTake(t, s, []byte{128}, api.Val{Kind: s.Type, Num: 128}, api.OK)
		wantTake(t, s, []byte{1, 2, 3, 4, 5, 6, 7, 8}, api.Val{Kind: s.Type, Num: 0x0102030405060708}, api.OK)
		wantTake(t, s, bytes.Repeat([]byte{255}, 8), api.Val{Kind: s.Type, Num: math.MaxUint64}, api.OK)
		wantNoData(t, s, []byte{0}, []byte{0, 0}, []byte{0, 1}, []byte{0, 7, 208}, []byte{0, 255, 255}, make([]byte, 8), make([]byte, 9), make([]byte, 1000),
			[]byte{0, 1, 2, 3, 4, 5, 6, 7, 8}, []byte{0, 255, 255, 255, 255, 255, 255, 255, 255}, []byte{0, 2, 3, 4, 5, 6, 7, 8},
			[]byte{1, 0, 0, 0, 0, 0, 0, 0, 0}, []byte{1, 2, 3, 4, 5, 6, 7, 8, 9}, bytes.Repeat([]byte{255}, 9), append([]byte{1}, make([]byte, 1000)...), append(make([]byte, 1000), 7))
	}
	for _, p := range leavesOf(t, api.Uint, api.Rate) {
		b := bounds[p.way]
		wantNoData(t, p.s, []byte{0}, least(b[1]+1), append([]byte{0}, least(b[0])...), append([]byte{0}, least(b[1])...), bytes.Repeat([]byte{255}, 8), append([]byte{1}, make([]byte, 8)...))
		if b[0] > 0 {
			wantNoData(t, p.s, least(b[0]-1), nil)
		} else {
			wantTake(t, p.s, nil, api.Val{Kind: p.s.Type}, api.OK)
		}
	}
}

func TestTakeBools(t *testing.T) { // P8.2
	for _, p := range leavesOf(t, api.Bool) {
		wantTake(t, p.s, []byte{0}, api.Val{Kind: api.Bool}, api.OK)
		wantTake(t, p.s, []byte{1}, api.Val{Kind: api.Bool, Num: 1}, api.OK)
		for c := 2; c < 256; c++ {
			wantNoData(t, p.s, []byte{byte(c)})
		}
		wantNoData(t, p.s, nil, []byte{}, []byte{0, 0}, []byte{0, 1}, []byte{1, 0}, []byte{1, 1}, make([]byte, 8), append(make([]byte, 8), 1), []byte{1, 0, 0, 0, 0, 0, 0, 0, 0}, []byte("true"), []byte("false"), []byte("0"), []byte("1"))
	}
}

func TestTakeEnums(t *testing.T) { // P8.2
	for _, p := range leavesOf(t, api.Enum) {
		for i, name := range []string{"edge", "core", "lab"} {
			wantTake(t, p.s, []byte{byte(i)}, api.Val{Kind: api.Enum, Text: name}, api.OK)
			wantNoData(t, p.s, []byte{byte(i), 0}, []byte{0, byte(i)}, []byte{byte(i), byte(i)}, []byte{byte(i), 1}, []byte(name))
		}
		for c := 3; c < 256; c++ {
			wantNoData(t, p.s, []byte{byte(c)})
		}
		wantNoData(t, p.s, nil, []byte{}, []byte{1, 0}, []byte{0, 0, 0}, make([]byte, 9))
	}
}

func TestTakeNames(t *testing.T) { // P8.2
	for _, p := range leavesOf(t, api.Ident, api.Ref) {
		for _, text := range texts {
			want, err := api.Val{}, api.ErrValue
			if letters.MatchString(text) {
				want, err = api.Val{Kind: p.s.Type, Text: text}, api.OK
			}
			wantTake(t, p.s, []byte(text), want, err)
		}
		wantNoData(t, p.s, nil, []byte{}, []byte{0}, []byte{1}, []byte("1a"), []byte("Gold"), []byte("abcdefghijklm"), []byte{'a', 0}, []byte{0, 'a'})
		for c := 128; c < 256; c++ {
			wantNoData(t, p.s, []byte{byte(c)}, []byte{'a', byte(c)}, []byte{'a', byte(c), 'b'}, []byte{byte(c), 'a'}, []byte{0xc3, byte(c)}, []byte{'a', 0xc3, byte(c)})
		}
	}
}

// TestAllValues holds what is told of many values against the chapter, and that a valid one is read back from its text and its bytes.
func TestAllValues(t *testing.T) { // P8.1, P8.2, P8.3
	for _, s := range specs(t) {
		for _, kind := range kinds {
			for _, x := range nums(s) {
				for _, text := range texts {
					v := api.Val{Kind: kind, Num: x, Text: text}
					is, shown, b := value.Right(s, v), value.Text(s, v), value.Data(s, v)
					if is != rightly(s, v) || shown != textOf(s, v) || !bytes.Equal(b, dataOf(s, v)) {
						t.Fatalf("%.200v, %#v: Right %v, Text %.60q, Data %.60v", s, v, is, shown, b)
					}
					if !is {
						continue
					}
					again, err := value.Parse(s, shown)
					if again != v || err != api.OK {
						t.Fatalf("%.200v: Parse(%.60q) = %#v, %v, want %#v", s, shown, again, err, v)
					}
					again, err = value.Take(s, b)
					if again != v || err != api.OK {
						t.Fatalf("%.200v: Take(%.60v) = %#v, %v, want %#v", s, b, again, err, v)
					}
				}
			}
		}
	}
}

// TestEachNumber reads back each number of each leaf.
func TestEachNumber(t *testing.T) { // P8.3
	for _, s := range specs(t) {
		if s.Kind != spec.Leaf || s.Type != api.Uint && s.Type != api.Rate || s.Max > 1<<24 {
			continue
		}
		for x := range s.Max + 1 {
			v := api.Val{Kind: s.Type, Num: x}
			text, b := value.Text(s, v), value.Data(s, v)
			parsed, err := value.Parse(s, text)
			taken, wrong := value.Take(s, b)
			if is := x >= s.Min; is != value.Right(s, v) || is && (parsed != v || err != api.OK || taken != v || wrong != api.OK) {
				t.Fatalf("%v: %d: %q to %#v, %v, and %v to %#v, %v", s, x, text, parsed, err, b, taken, wrong)
			}
		}
	}
}

// words calls a function for all rows of so many of some signs, and of fewer.
func words(signs string, size int, call func(word string)) {
	var grow func(word string)
	grow = func(word string) {
		call(word)
		if len(word) == size {
			return
		}
		for i := range len(signs) {
			grow(word + signs[i:i+1])
		}
	}
	grow("")
}

func TestAllTexts(t *testing.T) { // P8.1
	for _, s := range specs(t) {
		ask := func(text string) {
			want, wanted := parsed(s, text)
			if v, err := value.Parse(s, text); v != want || err != wanted {
				t.Fatalf("Parse(%.200v, %.60q) = %#v, %v, want %#v, %v", s, text, v, err, want, wanted)
			}
		}
		words("0159km- +aA", 4, ask)
		for _, text := range slices.Concat(texts, noNumbers, s.Names) {
			ask(text)
			ask(text + "k")
			ask(text + "m")
		}
		for _, x := range nums(s) {
			for _, unit := range []string{"", "k", "m", "000", "K"} {
				ask(strconv.FormatUint(x, 10) + unit)
				ask("0" + strconv.FormatUint(x, 10) + unit)
			}
		}
	}
}

func TestAllBytes(t *testing.T) { // P8.2
	every := make([]byte, 256)
	for i := range every {
		every[i] = byte(i)
	}
	for i, s := range specs(t) {
		ask := func(word string) {
			want, wanted := taken(s, []byte(word))
			if v, err := value.Take(s, []byte(word)); v != want || err != wanted {
				t.Fatalf("Take(%.200v, %.60v) = %#v, %v, want %#v, %v", s, []byte(word), v, err, want, wanted)
			}
		}
		size := 1
		if s.Kind == spec.Leaf && i < 20 {
			size = 2
		}
		words(string(every), size, ask)
		words("\x00\x01\x80\xffa", 5, ask)
		for _, text := range slices.Concat(texts, s.Names) {
			ask(text)
		}
		for _, x := range nums(s) {
			ask(string(least(x)))
			ask("\x00" + string(least(x)))
			ask(string(least(x)) + "\x00")
		}
		for size := range 12 {
			for _, c := range []string{"\x00", "\x01", "\x7f", "\x80", "\xff"} {
				ask(strings.Repeat(c, size))
				ask("\x01" + strings.Repeat(c, size))
			}
		}
	}
}

// rights is valid values, some of each type.
func rights(s spec.Spec) []api.Val {
	var l []api.Val
	for _, x := range nums(s) {
		for _, text := range slices.Concat(texts, s.Names) {
			if v := (api.Val{Kind: s.Type, Num: x, Text: text}); rightly(s, v) && !slices.Contains(l, v) {
				l = append(l, v)
			}
		}
	}
	return l
}

// spoil writes over bytes, the room behind them too.
func spoil(b []byte) {
	b = b[:cap(b)]
	for i := range b {
		b[i] ^= 0x55
	}
}

// TestNewBytes holds that nobody's change to bytes that were told is seen in others, nor in values.
func TestNewBytes(t *testing.T) { // P8.2
	for _, s := range specs(t) {
		for _, v := range rights(s) {
			first, second := value.Data(s, v), value.Data(s, v)
			want := dataOf(s, v)
			spoil(first)
			if !bytes.Equal(second, want) || !bytes.Equal(value.Data(s, v), want) {
				t.Fatalf("Data(%.200v, %#v) shares memory with what was told ahead", s, v)
			}
			read, err := value.Take(s, second)
			again, _ := value.Take(s, slices.Clone(second))
			spoil(second)
			if err != api.OK || read != v || again != v {
				t.Fatalf("%.200v: Take(%.60v) = %#v, %v after a change", s, want, read, err)
			}
			if again, err = value.Take(s, want); again != v || err != api.OK {
				t.Fatalf("%.200v: Take(%.60v) = %#v, %v behind a change", s, want, again, err)
			}
		}
	}
}

// TestArguments holds that no argument is changed, nor the room behind it.
func TestArguments(t *testing.T) { // P8.1, P8.2
	for _, s := range specs(t) {
		names := append(slices.Clone(s.Names), "spare", "room")
		s.Names = names[:len(s.Names)]
		was := slices.Clone(names)
		ask := func(v api.Val, text string, b []byte) {
			room := append(slices.Clone(b), 9, 8, 7)
			held := slices.Clone(room)
			value.Right(s, v)
			value.Text(s, v)
			value.Parse(s, text)
			spoil(value.Data(s, v))
			value.Take(s, room[:len(b)])
			if !bytes.Equal(room, held) || !slices.Equal(names, was) {
				t.Fatalf("%.200v, %#v: the bytes %v changed to %v, the names to %q", s, v, held, room, names)
			}
		}
		for _, v := range rights(s) {
			ask(v, textOf(s, v), dataOf(s, v))
		}
		for _, text := range texts {
			ask(api.Val{Kind: s.Type, Text: text}, text, []byte(text))
			ask(api.Val{Kind: s.Type, Num: 1, Text: text}, text+"k", append([]byte{0}, text...))
		}
	}
}

// TestNamesChange holds that a value that was read keeps its text when the names of its Spec change.
func TestNamesChange(t *testing.T) { // P8.1, P8.2
	names := []string{"edge", "core"}
	parsed, _ := value.Parse(enum(names...), "core")
	taken, _ := value.Take(enum(names...), []byte{1})
	names[0], names[1] = "core", "lab"
	if want := (api.Val{Kind: api.Enum, Text: "core"}); parsed != want || taken != want {
		t.Errorf("after a change of the names: %#v, %#v", parsed, taken)
	}
	wantValue(t, enum(names...), api.Val{Kind: api.Enum, Text: "core"}, "core", []byte{0})
	wantValue(t, enum(names...), api.Val{Kind: api.Enum, Text: "lab"}, "lab", []byte{1})
	wantNone(t, enum(names...), api.Val{Kind: api.Enum, Text: "edge"})
}
