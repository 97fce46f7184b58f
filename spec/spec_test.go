package spec_test

import (
	"math"
	"reflect"
	"slices"
	"strings"
	"testing"

	"tollbar/api"
	"tollbar/spec"
)

// The calls of the chapter, with just these signatures.
var (
	_ func(int) (spec.Spec, api.Errno)           = spec.Root
	_ func(spec.Spec, string) int                = spec.Find
	_ func(int, []string) (spec.Spec, api.Errno) = spec.At
	_ func(spec.Spec, int) uint64                = spec.Tag
	_ func(spec.Spec, uint64) int                = spec.Kid
)

// The fields of the chapter, in a type that may have others too.
var _ = spec.Spec{Name: "", Kind: int(0), Type: int(0), Min: uint64(0), Max: uint64(0), Names: []string(nil), Must: bool(false), Most: int(0), Kids: []spec.Spec(nil)}

func TestKinds(t *testing.T) { // P7.1
	if l := []int{spec.Leaf, spec.Box, spec.List}; !slices.Equal(l, []int{1, 2, 3}) {
		t.Errorf("Leaf, Box, List = %d", l)
	}
}

// line is what the schema has in a line of its own: how deep it stands, and all its fields but the kids.
type line struct {
	depth    int
	name     string
	kind     int
	of       int
	min, max uint64
	names    string
	must     bool
	most     int
}

// schemas is the three versions, line by line.
var schemas = [...][]line{
	1: {
		{0, "", spec.Box, api.None, 0, 0, "", false, 0},
		{1, "system", spec.Leaf, api.Ident, 0, 0, "", false, 0},
		{1, "port", spec.List, api.None, 0, 0, "", false, 4},
		{2, "up", spec.Leaf, api.Bool, 0, 0, "", false, 0},
		{2, "class", spec.List, api.None, 0, 0, "", false, 8},
		{3, "quantum", spec.Leaf, api.Uint, 1500, 100000, "", true, 0},
		{3, "rate", spec.Leaf, api.Rate, 0, 1000000, "", true, 0},
		{3, "burst", spec.Leaf, api.Uint, 1500, 1000000, "", true, 0},
		{3, "limit", spec.Leaf, api.Uint, 1, 64, "", true, 0},
		{2, "rule", spec.List, api.None, 0, 0, "", false, 16},
		{3, "low", spec.Leaf, api.Uint, 0, 65535, "", true, 0},
		{3, "high", spec.Leaf, api.Uint, 0, 65535, "", true, 0},
		{3, "class", spec.Leaf, api.Ref, 0, 0, "", true, 0},
		{2, "default", spec.Leaf, api.Ref, 0, 0, "", true, 0},
	},
	2: {
		{0, "", spec.Box, api.None, 0, 0, "", false, 0},
		{1, "system", spec.Leaf, api.Ident, 0, 0, "", false, 0},
		{1, "port", spec.List, api.None, 0, 0, "", false, 4},
		{2, "up", spec.Leaf, api.Bool, 0, 0, "", false, 0},
		{2, "class", spec.List, api.None, 0, 0, "", false, 8},
		{3, "quantum", spec.Leaf, api.Uint, 1500, 100000, "", true, 0},
		{3, "rate", spec.Leaf, api.Rate, 0, 1000000, "", true, 0},
		{3, "burst", spec.Leaf, api.Uint, 1500, 1000000, "", true, 0},
		{3, "limit", spec.Leaf, api.Uint, 1, 64, "", true, 0},
		{3, "shaped", spec.Leaf, api.Bool, 0, 0, "", true, 0},
		{2, "rule", spec.List, api.None, 0, 0, "", false, 16},
		{3, "low", spec.Leaf, api.Uint, 0, 65535, "", true, 0},
		{3, "high", spec.Leaf, api.Uint, 0, 65535, "", true, 0},
		{3, "class", spec.Leaf, api.Ref, 0, 0, "", true, 0},
		{2, "default", spec.Leaf, api.Ref, 0, 0, "", true, 0},
		{2, "kind", spec.Leaf, api.Enum, 0, 0, "edge core lab", false, 0},
	},
	3: {
		{0, "", spec.Box, api.None, 0, 0, "", false, 0},
		{1, "system", spec.Leaf, api.Ident, 0, 0, "", false, 0},
		{1, "port", spec.List, api.None, 0, 0, "", false, 4},
		{2, "up", spec.Leaf, api.Bool, 0, 0, "", false, 0},
		{2, "class", spec.List, api.None, 0, 0, "", false, 8},
		{3, "quantum", spec.Leaf, api.Uint, 1500, 100000, "", true, 0},
		{3, "rate", spec.Leaf, api.Rate, 0, 1000000, "", true, 0},
		{3, "burst", spec.Leaf, api.Uint, 1500, 1000000, "", true, 0},
		{3, "depth", spec.Leaf, api.Uint, 1, 64, "", true, 0},
		{3, "shaped", spec.Leaf, api.Bool, 0, 0, "", true, 0},
		{2, "rule", spec.List, api.None, 0, 0, "", false, 16},
		{3, "low", spec.Leaf, api.Uint, 0, 65535, "", true, 0},
		{3, "high", spec.Leaf, api.Uint, 0, 65535, "", true, 0},
		{3, "class", spec.Leaf, api.Ref, 0, 0, "", true, 0},
		{2, "default", spec.Leaf, api.Ref, 0, 0, "", true, 0},
		{2, "kind", spec.Leaf, api.Enum, 0, 0, "edge core lab", false, 0},
		{1, "wait", spec.Leaf, api.Uint, 1, 1000, "", false, 0},
	},
}

// noVersions is numbers that no version has.
var noVersions = []int{0, 4, 5, 6, 7, 28, 255, 256, 257, 258, 259, 1<<32 + 1, 1<<32 + 2, 1<<32 + 3, -1, -2, -3, -255, -1<<32 + 1, math.MinInt, math.MinInt + 1, math.MinInt + 3, math.MaxInt, math.MaxInt - 1}

// lines is those of a Spec, and of all that it has.
func lines(s spec.Spec, depth int) []line {
	l := []line{{depth, s.Name, s.Kind, s.Type, s.Min, s.Max, strings.Join(s.Names, " "), s.Must, s.Most}}
	for _, kid := range s.Kids {
		l = append(l, lines(kid, depth+1)...)
	}
	return l
}

// root is that of a version that there is.
func root(t *testing.T, version int) spec.Spec {
	t.Helper()
	s, err := spec.Root(version)
	if err != api.OK {
		t.Fatalf("Root(%d): %v", version, err)
	}
	return s
}

// empty tells whether nothing is set in a Spec.
func empty(s spec.Spec) bool {
	return s.Name == "" && s.Kind == 0 && s.Type == 0 && s.Min == 0 && s.Max == 0 && len(s.Names) == 0 && !s.Must && s.Most == 0 && len(s.Kids) == 0
}

// each calls a function for a Spec, the names that lead to it, and so for all that it has.
func each(s spec.Spec, names []string, call func(s spec.Spec, names []string)) {
	call(s, names)
	for _, kid := range s.Kids {
		each(kid, append(slices.Clone(names), kid.Name), call)
	}
}

// wantLines holds the Spec of a version at names against the lines of the chapter, from the first one on.
func wantLines(t *testing.T, version int, names []string, want []line) {
	t.Helper()
	s, err := spec.At(version, names)
	if err != api.OK {
		t.Errorf("At(%d, %q): %v", version, names, err)
		return
	}
	if l := lines(s, want[0].depth); !slices.Equal(l, want) {
		t.Errorf("At(%d, %q):\n%v, want\n%v", version, names, l, want)
	}
}

// wantNone asks for what a version hasn't.
func wantNone(t *testing.T, version int, names []string, want api.Errno) {
	t.Helper()
	if s, err := spec.At(version, names); err != want || !empty(s) {
		t.Errorf("At(%d, %.80q) = %v, %v, want %v", version, names, s, err, want)
	}
}

func TestExample(t *testing.T) { // P7.2
	for version := 1; version <= 3; version++ {
		s := root(t, version)
		if port, system := spec.Tag(s, spec.Find(s, "port")), spec.Tag(s, spec.Find(s, "system")); port != 5 || system != 2 {
			t.Errorf("version %d: Tag of port %d, of system %d", version, port, system)
		}
	}
}

func TestRoot(t *testing.T) { // P7.1
	for version := 1; version <= 3; version++ {
		if l := lines(root(t, version), 0); !slices.Equal(l, schemas[version]) {
			t.Errorf("Root(%d):\n%v, want\n%v", version, l, schemas[version])
		}
	}
	if s, _ := spec.At(3, []string{"port", "kind"}); !slices.Equal(s.Names, []string{"edge", "core", "lab"}) {
		t.Errorf("the names of kind: %q", s.Names)
	}
}

func TestOtherFields(t *testing.T) { // P7.1
	told := map[string]bool{"Name": true, "Kind": true, "Type": true, "Min": true, "Max": true, "Names": true, "Must": true, "Most": true, "Kids": true}
	for version := 1; version <= 3; version++ {
		each(root(t, version), nil, func(s spec.Spec, names []string) {
			v := reflect.ValueOf(s)
			for i := range v.NumField() {
				if f := v.Type().Field(i); f.IsExported() && !told[f.Name] && !v.Field(i).IsZero() {
					t.Errorf("version %d, %q: %s is set", version, names, f.Name)
				}
			}
		})
	}
}

func TestNoVersion(t *testing.T) { // P7.1
	for _, version := range noVersions {
		if s, err := spec.Root(version); err != api.Version || !empty(s) {
			t.Errorf("Root(%d) = %v, %v", version, s, err)
		}
		for _, names := range [][]string{nil, {}, {"system"}, {"port"}, {"port", "class", "limit"}, {"port", "class", "depth"}, {"none"}, {""}, {"system", "none"}} {
			wantNone(t, version, names, api.Version)
		}
	}
	for version := -1000; version <= 1000; version++ {
		_, err := spec.Root(version)
		if is := err == api.OK; is != (version >= 1 && version <= api.Versions) || !is && err != api.Version {
			t.Errorf("Root(%d): %v", version, err)
		}
	}
}

// strange is names that no kid has.
var strange = []string{
	"", " ", "root", "(root)", "none", "System", "SYSTEM", "syste", "systems", "system ", " system", "ystem", "por", "ports", "Port", "port[a]", "/port", "port/up", "port.up",
	"classes", "clas", "rules", "waits", "wai", "*", ".", "..", "\x00", "system\x00", "\xff", "p\u00f6rt", "ｐort", "0", "1", "edge", "core", "lab", strings.Repeat("port", 10000),
}

func TestFind(t *testing.T) { // P7.1
	for version := 1; version <= 3; version++ {
		each(root(t, version), nil, func(s spec.Spec, names []string) {
			for i, kid := range s.Kids {
				if found := spec.Find(s, kid.Name); found != i {
					t.Errorf("version %d, %q: Find(%q) = %d, want %d", version, names, kid.Name, found, i)
				}
			}
			for _, name := range append(strange, s.Name) {
				if found := spec.Find(s, name); found != -1 {
					t.Errorf("version %d, %q: Find(%.80q) = %d", version, names, name, found)
				}
			}
		})
	}
}

func TestFindOthers(t *testing.T) { // P7.1
	kids := func(names ...string) spec.Spec {
		var s spec.Spec
		for _, name := range names {
			s.Kids = append(s.Kids, spec.Spec{Name: name, Kind: spec.Leaf})
		}
		return s
	}
	within := kids("a")
	within.Kids[0].Kids = kids("b").Kids
	for _, c := range []struct {
		s    spec.Spec
		name string
		want int
	}{
		{spec.Spec{}, "", -1}, {spec.Spec{}, "a", -1}, {spec.Spec{Kids: []spec.Spec{}}, "a", -1}, {spec.Spec{Name: "a", Names: []string{"a"}}, "a", -1},
		{kids("a"), "a", 0}, {kids("a"), "", -1}, {kids(""), "", 0}, {kids("b", ""), "", 1}, {kids("a"), "A", -1}, {kids("a"), "b", -1},
		{kids("a", "a"), "a", 0}, {kids("b", "a", "a"), "a", 1}, {kids("b", "a", "b", "a", "b"), "b", 0}, {kids("c", "b", "a", "b", "a"), "a", 2},
		{kids("ab", "a", "abc"), "a", 1}, {kids("ab", "a", "abc"), "abc", 2}, {kids("ab", "a", "abc"), "b", -1}, {kids("c", "b", "a"), "a", 2},
		{within, "b", -1},
	} {
		if found := spec.Find(c.s, c.name); found != c.want {
			t.Errorf("Find(%v, %q) = %d, want %d", c.s, c.name, found, c.want)
		}
	}
}

// below is the lines of a schema from one on that are deeper than it, with itself.
func below(l []line) []line {
	n := 1
	for n < len(l) && l[n].depth > l[0].depth {
		n++
	}
	return l[:n]
}

func TestAt(t *testing.T) { // P7.1
	for version := 1; version <= 3; version++ {
		var names []string
		for i, first := range schemas[version] {
			names = append(names[:max(first.depth-1, 0)], first.name)
			if i == 0 {
				names = nil
			}
			wantLines(t, version, names, below(schemas[version][i:]))
		}
		wantLines(t, version, nil, schemas[version])
		wantLines(t, version, []string{}, schemas[version])
	}
}

func TestAtNothing(t *testing.T) { // P7.1
	for version := 1; version <= 3; version++ {
		each(root(t, version), nil, func(s spec.Spec, names []string) {
			for _, name := range strange {
				wantNone(t, version, append(slices.Clone(names), name), api.ErrName)
				for i := range names {
					otherwise := slices.Clone(names)
					otherwise[i] = name
					wantNone(t, version, otherwise, api.ErrName)
					wantNone(t, version, slices.Insert(slices.Clone(names), i, name), api.ErrName)
				}
			}
			if s.Kind == spec.Leaf {
				for _, name := range []string{s.Name, "system", "port", "up", "class", "limit", "depth", "kind", "edge"} {
					wantNone(t, version, append(slices.Clone(names), name), api.ErrName)
					wantNone(t, version, append(slices.Clone(names), name, "none"), api.ErrName)
				}
			}
		})
	}
	for version := 1; version <= 3; version++ {
		for _, names := range [][]string{
			{"up"}, {"class"}, {"rule"}, {"limit"}, {"default"}, {"port", "port"}, {"port", "system"}, {"port", "quantum"}, {"port", "class", "low"}, {"port", "class", "class"},
			{"port", "rule", "rate"}, {"port", "rule", "class", "rate"}, {"port", "class", "up"}, {"system", "port"}, {"system", "system"}, {"port", "wait"}, {"kind"}, {"depth"}, {"shaped"},
			{"port", "up", "class"}, {"port", "default", "class", "rate"}, {"port", "", "up"}, {"", "port"}, {"none", "port"}, {"port", "none", "rate"}, {"port", "class", "rate", "none"}, {"port", "class", "rate", ""},
		} {
			wantNone(t, version, names, api.ErrName)
		}
	}
}

// TestVersions holds what only some versions have.
func TestVersions(t *testing.T) { // P7.1
	for _, c := range []struct {
		names []string
		in    [3]bool
	}{
		{[]string{"port", "class", "limit"}, [3]bool{true, true, false}},
		{[]string{"port", "class", "depth"}, [3]bool{false, false, true}},
		{[]string{"port", "class", "shaped"}, [3]bool{false, true, true}},
		{[]string{"port", "kind"}, [3]bool{false, true, true}},
		{[]string{"wait"}, [3]bool{false, false, true}},
	} {
		for i, is := range c.in {
			s, err := spec.At(i+1, c.names)
			if is && (err != api.OK || s.Name != c.names[len(c.names)-1]) {
				t.Errorf("version %d has no %q: %v, %v", i+1, c.names, s, err)
			}
			if !is {
				wantNone(t, i+1, c.names, api.ErrName)
			}
		}
	}
}

// noKids is numbers that no kid of n has.
func noKids(n int) []int {
	return []int{-1, -2, -3, -n, -n - 1, n, n + 1, n + 2, 2 * n, 2*n + 2, n + 8, n + 100, 255, 256, 1 << 16, 1 << 31, 1 << 32, 1<<32 + 1, 1 << 62, 1<<62 + 1, -1 << 31, -1 << 32, -1 << 62, math.MaxInt, math.MaxInt - 1, math.MinInt, math.MinInt + 1}
}

// wantTags holds the tags of a Spec's kids against the chapter.
func wantTags(t *testing.T, s spec.Spec) {
	t.Helper()
	owner := map[uint64]int{}
	for i, kid := range s.Kids {
		want := uint64(2*i + 2)
		if kid.Kind != spec.Leaf {
			want = uint64(2*i + 3)
		}
		if _, twice := owner[want]; twice {
			t.Fatalf("%q: the tag of kid %d is another one's too", s.Name, i)
		}
		owner[want] = i
		if tag := spec.Tag(s, i); tag != want {
			t.Errorf("%q: Tag(%d) = %d, want %d", s.Name, i, tag, want)
		}
		if kid := spec.Kid(s, want^1); kid >= 0 {
			t.Errorf("%q: Kid(%d) = %d", s.Name, want^1, kid)
		}
	}
	for _, i := range noKids(len(s.Kids)) {
		if i >= 0 && i < len(s.Kids) || i == 0 {
			continue
		}
		if tag := spec.Tag(s, i); tag != 0 {
			t.Errorf("%q: Tag(%d) = %d, of no kid", s.Name, i, tag)
		}
	}
	tags := []uint64{math.MaxUint64, math.MaxUint64 - 1, math.MaxUint64 - 2, 1 << 63, 1<<63 + 1, 1<<63 + 2, 1<<63 + 3, 1<<63 - 1, 1 << 32, 1<<32 + 2, 1<<32 + 3, 1<<33 + 2, 1<<33 + 3}
	for tag := range uint64(2*len(s.Kids) + 20) {
		tags = append(tags, tag)
	}
	for _, tag := range tags {
		want, is := owner[tag]
		if !is {
			want = -1
		}
		if kid := spec.Kid(s, tag); kid != want {
			t.Errorf("%q: Kid(%d) = %d, want %d", s.Name, tag, kid, want)
		}
	}
}

func TestTags(t *testing.T) { // P7.2, P7.3
	for version := 1; version <= 3; version++ {
		each(root(t, version), nil, func(s spec.Spec, _ []string) { wantTags(t, s) })
	}
}

func TestTagsOfOthers(t *testing.T) { // P7.2
	wantTags(t, spec.Spec{})
	wantTags(t, spec.Spec{Name: "none", Kind: spec.List, Most: 3, Kids: []spec.Spec{}})
	for n := 1; n <= 5; n++ {
		for code := range 1 << (2 * n) {
			s := spec.Spec{Name: "others"}
			for i := range n {
				if kind := code >> (2 * i) % 4; kind != 0 {
					s.Kids = append(s.Kids, spec.Spec{Kind: kind, Type: i})
				}
			}
			wantTags(t, s)
		}
	}
	many := spec.Spec{Name: "many"}
	for i := range 1000 {
		many.Kids = append(many.Kids, spec.Spec{Name: "a", Kind: i*i%3 + 1})
	}
	wantTags(t, many)
}

// TestRoom holds that kids that a slice has room for, but doesn't have, are none.
func TestRoom(t *testing.T) { // P7.1, P7.2
	all := []spec.Spec{{Name: "a", Kind: spec.Leaf}, {Name: "b", Kind: spec.Box}}
	s := spec.Spec{Kids: all[:1]}
	if tag, kid, found := spec.Tag(s, 1), spec.Kid(s, 5), spec.Find(s, "b"); tag != 0 || kid != -1 || found != -1 {
		t.Errorf("of a kid behind the last one: Tag %d, Kid %d, Find %d", tag, kid, found)
	}
	if !slices.Equal(lines(spec.Spec{Kids: all}, 0), []line{{}, {depth: 1, name: "a", kind: spec.Leaf}, {depth: 1, name: "b", kind: spec.Box}}) {
		t.Errorf("kids were changed to %v", all)
	}
}

// spoil writes over all that a Spec has, the room behind its lists too.
func spoil(s *spec.Spec) {
	for i, names := 0, s.Names[:cap(s.Names)]; i < len(names); i++ {
		names[i] = "spoilt"
	}
	kids := s.Kids[:cap(s.Kids)]
	for i := range kids {
		spoil(&kids[i])
		kids[i] = spec.Spec{Name: "spoilt", Kind: 9, Type: 9, Min: 9, Max: 9, Most: 9, Must: !kids[i].Must}
	}
	s.Name = "spoilt"
}

func TestNewMemory(t *testing.T) { // P7.1
	for version := 1; version <= 3; version++ {
		each(root(t, version), nil, func(_ spec.Spec, names []string) {
			s, _ := spec.At(version, names)
			want := lines(s, 0)
			other, _ := spec.At(version, names)
			spoil(&s)
			if l := lines(other, 0); !slices.Equal(l, want) {
				t.Errorf("At(%d, %q) shares memory with what was told ahead", version, names)
			}
			again, _ := spec.At(version, names)
			if l := lines(again, 0); !slices.Equal(l, want) {
				t.Errorf("At(%d, %q) tells otherwise after a change", version, names)
			}
			for v := 1; v <= 3; v++ {
				r := root(t, v)
				if l := lines(r, 0); !slices.Equal(l, schemas[v]) {
					t.Errorf("Root(%d) tells otherwise after a change to version %d, %q", v, version, names)
				}
				spoil(&r)
				if l := lines(root(t, v), 0); !slices.Equal(l, schemas[v]) {
					t.Errorf("Root(%d) tells otherwise after a change", v)
				}
			}
		})
	}
}

// TestOwnLists holds that no two lists of one answer share any memory, the room behind them counted.
func TestOwnLists(t *testing.T) { // P7.1
	for version := 1; version <= 3; version++ {
		seen := map[any]bool{}
		each(root(t, version), nil, func(s spec.Spec, names []string) {
			own := func(at any) {
				if seen[at] {
					t.Errorf("version %d, %q: one of its lists is another one's too", version, names)
				}
				seen[at] = true
			}
			for kids, i := s.Kids[:cap(s.Kids)], 0; i < len(kids); i++ {
				own(&kids[i])
			}
			for texts, i := s.Names[:cap(s.Names)], 0; i < len(texts); i++ {
				own(&texts[i])
			}
		})
	}
}

func TestArguments(t *testing.T) { // P7.1, P7.2
	room := []string{"port", "class", "rate", "spare"}
	if _, err := spec.At(2, room[:3]); err != api.OK || !slices.Equal(room, []string{"port", "class", "rate", "spare"}) {
		t.Errorf("At changed its names to %q, or failed: %v", room, err)
	}
	s := root(t, 3)
	spec.Find(s, "wait")
	for i := range len(s.Kids) + 2 {
		spec.Kid(s, spec.Tag(s, i-1))
	}
	if l := lines(s, 0); !slices.Equal(l, schemas[3]) {
		t.Errorf("a Spec that was asked is changed to\n%v", l)
	}
}

// TestNextVersion holds that what a version has, but limit, the next one has too.
func TestNextVersion(t *testing.T) { // P7.3
	for version := 1; version < 3; version++ {
		each(root(t, version), nil, func(s spec.Spec, names []string) {
			next, err := spec.At(version+1, names)
			if len(names) > 0 && names[len(names)-1] == "limit" && version == 2 {
				wantNone(t, version+1, names, api.ErrName)
				return
			}
			if err != api.OK {
				t.Errorf("version %d has no %q: %v", version+1, names, err)
				return
			}
			was, is := lines(s, 0)[0], lines(next, 0)[0]
			if was != is {
				t.Errorf("%q is %v in version %d, and %v in the next one", names, was, version, is)
			}
			if !rising(s, next) {
				t.Errorf("%q has its kids in another order in version %d", names, version+1)
			}
		})
	}
	limit, _ := spec.At(2, []string{"port", "class", "limit"})
	depth, _ := spec.At(3, []string{"port", "class", "depth"})
	limit.Name = "depth"
	if !slices.Equal(lines(limit, 0), lines(depth, 0)) {
		t.Errorf("limit is %v, depth %v", limit, depth)
	}
}

// rising tells whether the kids of a Spec stand in the same order in its next version.
func rising(s, next spec.Spec) bool {
	last := -1
	for _, kid := range s.Kids {
		if i := spec.Find(next, kid.Name); i >= 0 {
			if i <= last {
				return false
			}
			last = i
		}
	}
	return true
}
