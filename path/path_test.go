package path_test

import (
	"math"
	"math/rand"
	"reflect"
	"slices"
	"strings"
	"testing"

	"tollbar/api"
	"tollbar/path"
	"tollbar/spec"
)

// The calls of the chapter, with just these signatures.
var (
	_ func([]api.Step) string                      = path.Show
	_ func(string) ([]api.Step, api.Errno, int)    = path.Parse
	_ func(int, []api.Step) (spec.Spec, api.Errno) = path.At
	_ func(way, front []api.Step) bool             = path.Under
)

// steps is a way: the name and the key of each step, by turns.
func steps(parts ...string) []api.Step {
	var way []api.Step
	for i := 0; i < len(parts); i += 2 {
		way = append(way, api.Step{Name: parts[i], Key: parts[i+1]})
	}
	return way
}

// joined is two ways as one, in new memory.
func joined(front []api.Step, behind ...api.Step) []api.Step {
	return append(slices.Clone(front), behind...)
}

func wantShow(t *testing.T, way []api.Step, want string) {
	t.Helper()
	if s := path.Show(way); s != want {
		t.Errorf("Show(%.200q) = %.200q, want %.200q", way, s, want)
	}
}

func wantParse(t *testing.T, s string, want []api.Step) {
	t.Helper()
	way, err, at := path.Parse(s)
	if !slices.Equal(way, want) || err != api.OK || at != 0 {
		t.Errorf("Parse(%.200q) = %.200q, %d, %d, want %.200q", s, way, err, at, want)
	}
}

// wantBoth asks for the text of a way, and for the way of that text.
func wantBoth(t *testing.T, way []api.Step, text string) {
	t.Helper()
	wantShow(t, way, text)
	wantParse(t, text, way)
}

func wantProblem(t *testing.T, s string, want api.Errno, place int) {
	t.Helper()
	way, err, at := path.Parse(s)
	if len(way) != 0 || err != want || at != place {
		t.Errorf("Parse(%.200q) = %.200q, %d, %d, want %d at %d", s, way, err, at, want, place)
	}
}

// wantModel asks for what the chapter says of a text, and of the way that is told.
func wantModel(t *testing.T, s string) {
	t.Helper()
	want, wantErr, wantAt := modelParse(s)
	way, err, at := path.Parse(s)
	if !slices.Equal(way, want) || err != wantErr || at != wantAt {
		t.Fatalf("Parse(%.200q) = %.200q, %d, %d, want %.200q, %d, %d", s, way, err, at, want, wantErr, wantAt)
	}
	if err == api.OK && path.Show(way) != s {
		t.Fatalf("Show(%.200q) = %.200q, want %.200q", way, path.Show(way), s)
	}
}

// wantModelShow asks for what the chapter says of a way, and of the text that is told.
func wantModelShow(t *testing.T, way []api.Step) {
	t.Helper()
	want := modelShow(way)
	s := path.Show(way)
	if s != want {
		t.Fatalf("Show(%.200q) = %.200q, want %.200q", way, s, want)
	}
	if s == "" {
		return
	}
	if back, err, at := path.Parse(s); !slices.Equal(back, way) || err != api.OK || at != 0 {
		t.Fatalf("Parse(%.200q) = %.200q, %d, %d, want %.200q", s, back, err, at, way)
	}
}

// longest is a name as long as may be, and tooLong one character more.
const (
	longest = "abcdefghijkl"
	tooLong = "abcdefghijklm"
)

// names is what a name and a key may be.
var names = []string{"a", "z", "m", "port", "up", "gold-1", "a-", "a--", "a0", "z9", "x-0-y", longest, "z-----------", "a00000000000", "abcdefghijk-", "a1234567890z"}

// noNames is what neither a name nor a key may be; the empty text is none of a name.
var noNames = []string{
	tooLong, longest + "-", longest + "0", "a------------", strings.Repeat("a", 14), strings.Repeat("a", 24), strings.Repeat("b", 255), strings.Repeat("b", 257), strings.Repeat("c", 8193), "1" + longest,
	"0", "9", "1a", "0-", "123456789012", "-", "--", "-a", "-1", "A", "Z", "Port", "poRt", "porT", "PORT", longest[1:] + "A",
	" ", " a", "a ", "a b", "\t", "a\t", "\n", "a\n", "\na", "a\r", "\x00", "a\x00", "\x00a", "\x7f", "a\x7f",
	"_", "a_b", ".", "a.b", "a,", "a:b", "a`", "a{", "`", "{", "@", "a@", "a:", "a;", "a\"", "\"a\"", "a\\", "a+", "a#", "a*", "*",
	"/", "a/", "/a", "a/b", "[", "a[", "a[b]", "[a]", "[]", "]", "a]", "]a", "a]/b", "a][b",
	"é", "aé", "éa", "ä", "а", "ａ", "１", "a１", "ß", "K", "ſ", "aſ", "\u00ad", "a\u0301", "\u2010", "a\u2010b", "世界", "\U0001f600", "\ufffd", "a\ufffd", "\ufeffa", "\u0661",
	"\xff", "a\xff", "\xffa", "\x80", "a\x80", "\xc3", "a\xc3", "\xe4\xb8", "\xc1\xa1", "a\xc1\xa1", "\xed\xa0\x80", "\xf4\x90\x80\x80",
}

// good is that many steps that may be, of which each one with an odd number has a key.
func good(n int) []api.Step {
	all := steps("a", "", "b-1", "k", longest, "", "port", longest, "x", "", "q", "z9", "a", "", "b", "c", "d", "")
	return all[:n:n]
}

func TestExample(t *testing.T) { // P15.1
	wantBoth(t, steps("port", "a", "up", ""), "/port[a]/up")
}

func TestTexts(t *testing.T) { // P15.1, P15.3
	wantBoth(t, nil, "/")
	wantShow(t, []api.Step{}, "/")
	wantBoth(t, steps("a", ""), "/a")
	wantBoth(t, steps("a", "b"), "/a[b]")
	wantBoth(t, steps("system", ""), "/system")
	wantBoth(t, steps("port", "eth-0"), "/port[eth-0]")
	wantBoth(t, steps("a", "", "b", ""), "/a/b")
	wantBoth(t, steps("a", "a", "a", "a"), "/a[a]/a[a]")
	wantBoth(t, steps("a", "", "b", "c"), "/a/b[c]")
	wantBoth(t, steps("port", "a", "class", "be", "rate", ""), "/port[a]/class[be]/rate")
	wantBoth(t, steps("a", "", "b", "", "c", "", "d", ""), "/a/b/c/d")
	wantBoth(t, steps("a", "b", "c", "d", "e", "f", "g", "h", "i", "j"), "/a[b]/c[d]/e[f]/g[h]/i[j]")
	wantBoth(t, steps("a", "", "b", "", "c", "", "d", "", "e", "", "f", ""), "/a/b/c/d/e/f")
	wantBoth(t, steps("a", "b", "c", "d", "e", "f", "g", "h", "i", "j", "k", "l"), "/a[b]/c[d]/e[f]/g[h]/i[j]/k[l]")
	wantBoth(t, good(6), "/a/b-1[k]/abcdefghijkl/port[abcdefghijkl]/x/q[z9]")
	wantBoth(t, steps(longest, longest), "/abcdefghijkl[abcdefghijkl]")
	long := strings.Repeat("/z-0123456789[a----------z]", 6)
	wantBoth(t, slices.Repeat(steps("z-0123456789", "a----------z"), 6), long)
}

// TestShapes: each number of steps, each of them with a key or without.
func TestShapes(t *testing.T) { // P15.1, P15.3
	for n := range 7 {
		for keyed := range 1 << n {
			var way []api.Step
			text := ""
			for i := range n {
				step := api.Step{Name: names[i]}
				text += "/" + step.Name
				if keyed>>i%2 == 1 {
					step.Key = names[len(names)-1-i]
					text += "[" + step.Key + "]"
				}
				way = append(way, step)
			}
			if n == 0 {
				text = "/"
			}
			wantBoth(t, way, text)
		}
	}
}

// TestNames: each name and each key that may be, at each step.
func TestNames(t *testing.T) { // P15.1, P15.3
	for n := 1; n <= 6; n++ {
		for i := range n {
			for _, name := range names {
				way := joined(good(n))
				way[i].Name = name
				wantModelShow(t, way)
				wantParse(t, path.Show(way), way)
				way = joined(good(n))
				way[i].Key = name
				wantModelShow(t, way)
				wantParse(t, path.Show(way), way)
			}
		}
	}
}

func TestNoText(t *testing.T) { // P15.1
	for _, n := range []int{7, 8, 9} {
		wantShow(t, good(n), "")
	}
	for _, n := range []int{7, 12, 13, 256, 262, 65536, 65542, 1 << 20} {
		wantShow(t, slices.Repeat(steps("a", ""), n), "")
		wantShow(t, slices.Repeat(steps("a", "b"), n), "")
	}
	wantShow(t, make([]api.Step, 1), "")
	wantShow(t, make([]api.Step, 6), "")
	wantShow(t, make([]api.Step, 7), "")
	wantShow(t, steps("", "a"), "")
	for n := 1; n <= 6; n++ {
		for i := range n {
			for _, name := range append([]string{""}, noNames...) {
				way := joined(good(n))
				way[i].Name = name
				wantShow(t, way, "")
				way[i].Key = ""
				wantShow(t, way, "")
				way[i].Key = "k"
				wantShow(t, way, "")
				if name == "" {
					continue
				}
				way[i].Key = name
				wantShow(t, way, "")
				way[i].Name = "a"
				wantShow(t, way, "")
			}
		}
	}
}

// TestCharacters: each byte alone, first, and behind others, as a name and as a key.
func TestCharacters(t *testing.T) { // P15.1
	for c := range 256 {
		sign := string([]byte{byte(c)})
		for _, name := range []string{sign, sign + "a", "a" + sign, "a" + sign + "a", "abcdefghijk" + sign, longest + sign} {
			wantModelShow(t, steps(name, ""))
			wantModelShow(t, steps("a", name))
			wantModelShow(t, steps("a", "b", name, "c", "d", name))
			wantModel(t, "/"+name)
			wantModel(t, "/a["+name+"]")
			wantModel(t, "/a["+name)
			wantModel(t, "/a[b]"+name)
			wantModel(t, "/a[b]/"+name+"[c]")
			wantModel(t, name)
		}
	}
}

// tails is what may stand behind a text that is wrong already; none makes a name ahead of it longer.
var tails = []string{"", "/", "//", "/a", "/A[", " ", "[[", "[", "\xff", "é", "/1[]", "/a/b/c/d/e/f/g/h", "\x00", "A"}

// wantProblems asks for a problem of a text, behind that many bytes of steps that may be, and for the same whatever stands behind the text.
func wantProblems(t *testing.T, front, text string, want api.Errno, place int) {
	t.Helper()
	for _, tail := range tails {
		wantProblem(t, front+text+tail, want, len(front)+place)
	}
}

// fronts is texts of that many steps, the last one of them with a key and without.
func fronts(n int) []string {
	switch n {
	case 0:
		return []string{""}
	case 1:
		return []string{"/x", "/x[y]", "/" + longest + "[" + longest + "]"}
	}
	front := path.Show(good(n - 1))
	return []string{front + "/x", front + "/x[y]", strings.Repeat("/p[q]", n), strings.Repeat("/p", n)}
}

// ownProblems is what is wrong with a step, whatever stands ahead and behind, and how many bytes ahead of that the step has.
var ownProblems = []struct {
	text  string
	err   api.Errno
	place int
}{
	{"//", api.ErrName, 1}, {"//a", api.ErrName, 1}, {"///", api.ErrName, 1}, {"//a[b]", api.ErrName, 1},
	{"/1", api.ErrName, 1}, {"/0a", api.ErrName, 1}, {"/9", api.ErrName, 1}, {"/1a[b]", api.ErrName, 1}, {"/-", api.ErrName, 1}, {"/-a", api.ErrName, 1}, {"/-a[b]", api.ErrName, 1},
	{"/" + tooLong, api.ErrName, 1}, {"/" + longest + "-", api.ErrName, 1}, {"/" + longest + "0[", api.ErrName, 1}, {"/" + tooLong + "[b]", api.ErrName, 1}, {"/" + tooLong + "[1]", api.ErrName, 1},
	{"/A", api.ErrName, 1}, {"/Ab", api.ErrName, 1}, {"/A[b]", api.ErrName, 1}, {"/ ", api.ErrName, 1}, {"/ a", api.ErrName, 1}, {"/\n", api.ErrName, 1}, {"/_", api.ErrName, 1},
	{"/[", api.ErrName, 1}, {"/[b]", api.ErrName, 1}, {"/[]", api.ErrName, 1}, {"/]", api.ErrName, 1}, {"/é", api.ErrName, 1}, {"/ａ", api.ErrName, 1}, {"/\xff", api.ErrName, 1}, {"/\xc3", api.ErrName, 1}, {"/\x00", api.ErrName, 1},
	{"/aB", api.ErrSyntax, 2}, {"/a ", api.ErrSyntax, 2}, {"/a b", api.ErrSyntax, 2}, {"/a\n", api.ErrSyntax, 2}, {"/a_", api.ErrSyntax, 2}, {"/a.b", api.ErrSyntax, 2}, {"/a]", api.ErrSyntax, 2}, {"/a][b]", api.ErrSyntax, 2},
	{"/aé", api.ErrSyntax, 2}, {"/a\u0301", api.ErrSyntax, 2}, {"/a\xff", api.ErrSyntax, 2}, {"/a\xa9", api.ErrSyntax, 2}, {"/a\x00", api.ErrSyntax, 2}, {"/ab-1C", api.ErrSyntax, 5}, {"/" + longest + "M", api.ErrSyntax, 13}, {"/a [b]", api.ErrSyntax, 2},
	{"/a[]", api.ErrName, 3}, {"/a[]]", api.ErrName, 3}, {"/a[[", api.ErrName, 3}, {"/a[[b]]", api.ErrName, 3}, {"/a[/", api.ErrName, 3}, {"/a[/b]", api.ErrName, 3}, {"/abc[]", api.ErrName, 5}, {"/" + longest + "[]", api.ErrName, 14},
	{"/a[1", api.ErrName, 3}, {"/a[1]", api.ErrName, 3}, {"/a[0b]", api.ErrName, 3}, {"/a[-", api.ErrName, 3}, {"/a[-b]", api.ErrName, 3}, {"/a[" + tooLong, api.ErrName, 3}, {"/a[" + tooLong + "]", api.ErrName, 3}, {"/a[" + longest + "-]", api.ErrName, 3}, {"/" + longest + "[" + tooLong + "]", api.ErrName, 14},
	{"/a[B]", api.ErrName, 3}, {"/a[Bc]", api.ErrName, 3}, {"/a[ ]", api.ErrName, 3}, {"/a[ b]", api.ErrName, 3}, {"/a[é]", api.ErrName, 3}, {"/a[\xff]", api.ErrName, 3}, {"/a[\x00]", api.ErrName, 3}, {"/a[\"b\"]", api.ErrName, 3},
	{"/a[b", api.ErrSyntax, 4}, {"/a[bC]", api.ErrSyntax, 4}, {"/a[b ]", api.ErrSyntax, 4}, {"/a[b c]", api.ErrSyntax, 4}, {"/a[b/", api.ErrSyntax, 4}, {"/a[b/c]", api.ErrSyntax, 4}, {"/a[b[", api.ErrSyntax, 4}, {"/a[b[c]]", api.ErrSyntax, 4}, {"/a[b_]", api.ErrSyntax, 4},
	{"/a[bé]", api.ErrSyntax, 4}, {"/a[b\xff]", api.ErrSyntax, 4}, {"/a[b\x00]", api.ErrSyntax, 4}, {"/a[b\n]", api.ErrSyntax, 4}, {"/a[b,c]", api.ErrSyntax, 4}, {"/a[" + longest, api.ErrSyntax, 15}, {"/a[" + longest + "M]", api.ErrSyntax, 15}, {"/ab-1[c-2D]", api.ErrSyntax, 9},
	{"/a[b]c", api.ErrSyntax, 5}, {"/a[b]1", api.ErrSyntax, 5}, {"/a[b]-", api.ErrSyntax, 5}, {"/a[b]C", api.ErrSyntax, 5}, {"/a[b] ", api.ErrSyntax, 5}, {"/a[b]\n", api.ErrSyntax, 5}, {"/a[b]]", api.ErrSyntax, 5}, {"/a[b]é", api.ErrSyntax, 5}, {"/a[b]\xff", api.ErrSyntax, 5},
	{"/a[b][", api.ErrSyntax, 5}, {"/a[b][c]", api.ErrSyntax, 5}, {"/a[b][]", api.ErrSyntax, 5}, {"/a[b][1]", api.ErrSyntax, 5}, {"/a[b][c][d]", api.ErrSyntax, 5}, {"/abc[d-e][f]", api.ErrSyntax, 9}, {"/" + longest + "[" + longest + "]" + longest, api.ErrSyntax, 27},
}

// TestProblems: each problem, at each step, whatever stands behind it.
func TestProblems(t *testing.T) { // P15.1
	for n := range 6 {
		for _, front := range fronts(n) {
			for _, p := range ownProblems {
				wantProblems(t, front, p.text, p.err, p.place)
			}
		}
	}
}

// TestEndedTexts: texts that end where something lacks.
func TestEndedTexts(t *testing.T) { // P15.1
	wantProblem(t, "", api.ErrSyntax, 0)
	for n := 1; n < 6; n++ {
		for _, front := range fronts(n) {
			wantProblem(t, front+"/", api.ErrName, len(front)+1)
			wantProblem(t, front+"/a[", api.ErrName, len(front)+3)
			wantProblem(t, front+"/a[b", api.ErrSyntax, len(front)+4)
			wantProblem(t, front+"/abc[defg", api.ErrSyntax, len(front)+9)
		}
	}
}

func TestNoSlash(t *testing.T) { // P15.1
	for _, text := range []string{"a", "port", "port[a]/up", "a/", "1", "-", "A", " ", " /a", "\n/", "[", "[a]", "]", "[/a]", "\\a", "é", "é/a", "\xff", "\xff/a", "\x00", "\x00/", "\ufeff/a", ".", "./a", tooLong, "\"/a\"", "／a"} {
		wantProblems(t, "", text, api.ErrSyntax, 0)
	}
	for n := 1; n <= 6; n++ {
		for _, front := range fronts(n) {
			for _, text := range []string{"]", "A", " ", " /a", "\n", "\t/a", "é", "\xff", "\x80", "\x00", "\x00/a", "_", ".a", "\\", "{", "`", "@", ":", ",", "]/a", "]]"} {
				wantProblems(t, front, text, api.ErrSyntax, 0)
			}
			if !strings.HasSuffix(front, "]") {
				continue
			}
			for _, text := range []string{"a", "1", "-", "a/b", "[", "[]", "[a]", "[a]/b", "[1]", "[[", "a[b]", tooLong} {
				wantProblems(t, front, text, api.ErrSyntax, 0)
			}
		}
	}
}

// TestSeventh: the seventh step is too many, whatever it is, and no other one ahead of it is.
func TestSeventh(t *testing.T) { // P15.1
	for _, front := range fronts(6) {
		wantParse(t, front, must(t, front))
		for _, text := range []string{"/", "//", "/a", "/a[b]", "/a[b", "/a[", "/1", "/-", "/A", "/ ", "/[", "/]", "/é", "/\xff", "/\x00", "/" + tooLong, "/a/", "/a/b/c", "/aB", "/a]"} {
			wantProblems(t, front, text, api.ErrDeep, 0)
		}
		if !strings.HasSuffix(front, "]") {
			wantProblem(t, front+"[]/", api.ErrName, len(front)+1)
			wantProblem(t, front+"[k/", api.ErrSyntax, len(front)+2)
			wantProblem(t, front+"[k]/", api.ErrDeep, len(front)+3)
			wantProblem(t, front+"-A/", api.ErrSyntax, len(front)+1)
		}
	}
	wantProblem(t, "/a/b/c/d/e/f/", api.ErrDeep, 12)
	wantProblem(t, strings.Repeat("/a", 1<<20), api.ErrDeep, 12)
	wantProblem(t, strings.Repeat("/a[b]", 1<<20), api.ErrDeep, 30)
	wantProblem(t, strings.Repeat("/", 1<<20), api.ErrName, 1)
	wantProblem(t, strings.Repeat("/"+longest+"["+longest+"]", 7), api.ErrDeep, 162)
}

// must is the way of a text, as the model tells it.
func must(t *testing.T, text string) []api.Step {
	t.Helper()
	way, err, _ := modelParse(text)
	if err != api.OK {
		t.Fatalf("%q: %d", text, err)
	}
	return way
}

// TestLong: texts that are longer than any of a way.
func TestLong(t *testing.T) { // P15.1
	for _, n := range []int{13, 24, 255, 256, 257, 268, 1 << 20} {
		long := strings.Repeat("a", n)
		wantProblem(t, "/"+long, api.ErrName, 1)
		wantProblem(t, "/a["+long+"]", api.ErrName, 3)
		wantProblem(t, "/a/b[c]/"+long, api.ErrName, 8)
		wantProblem(t, long, api.ErrSyntax, 0)
		wantProblem(t, "/a[b]"+long, api.ErrSyntax, 5)
		wantProblem(t, "/a"+strings.Repeat(" ", n), api.ErrSyntax, 2)
		wantProblem(t, "/a"+strings.Repeat("[", n), api.ErrName, 3)
		wantProblem(t, "/a[b"+strings.Repeat("[", n), api.ErrSyntax, 4)
	}
}

// TestProblemsAlone: each name that may not be, as a name and as a key, at each step.
func TestProblemsAlone(t *testing.T) { // P15.1
	for n := range 6 {
		for _, front := range fronts(n) {
			for _, name := range noNames {
				wantModel(t, front+"/"+name)
				wantModel(t, front+"/"+name+"[a]")
				wantModel(t, front+"/a["+name+"]")
				wantModel(t, front+"/a["+name+"]/b")
				wantModel(t, front+"/a["+name)
				wantModel(t, front+name)
			}
		}
	}
}

// TestSmallTexts: all texts of few characters.
func TestSmallTexts(t *testing.T) { // P15.1, P15.3
	ways := map[string]string{}
	var all func(s string, left int)
	all = func(s string, left int) {
		wantModel(t, s)
		if way, err, _ := path.Parse(s); err == api.OK {
			mark := ""
			for _, step := range way {
				mark += step.Name + " " + step.Key + "\n"
			}
			if other, ok := ways[mark]; ok {
				t.Fatalf("%q and %q have one way", s, other)
			}
			ways[mark] = s
		}
		if left == 0 {
			return
		}
		for _, sign := range []string{"/", "[", "]", "a", "1", "A"} {
			all(s+sign, left-1)
		}
	}
	all("", 7)
	for _, front := range []string{"/a", "/a[b]", "/a/b", "/a[b]/c/d/e/f", "/a/b/c/d/e/f[g]", "/a[", "/" + longest[1:], "/a[" + longest[1:]} {
		ways = map[string]string{}
		all(front, 5)
	}
}

// TestSmallWays: all ways of few steps have different texts, and those of few names do.
func TestSmallWays(t *testing.T) { // P15.3
	ways := map[string][]api.Step{}
	var all func(way []api.Step, left int, names, keys []string)
	all = func(way []api.Step, left int, names, keys []string) {
		wantModelShow(t, way)
		if s := path.Show(way); s != "" {
			if other, ok := ways[s]; ok && !slices.Equal(way, other) {
				t.Fatalf("%q and %q have the text %q", way, other, s)
			}
			ways[s] = slices.Clone(way)
		}
		if left == 0 {
			return
		}
		for _, name := range names {
			for _, key := range keys {
				all(append(way, api.Step{Name: name, Key: key}), left-1, names, keys)
			}
		}
	}
	all(nil, 2, append([]string{"", "a/b", "a[b]", "A", "1"}, names...), append([]string{"", "a]/b", "a[b", "A", "1"}, names...))
	all(nil, 4, []string{"a", "b", "ab"}, []string{"", "a", "b"})
	all(nil, 7, []string{"a"}, []string{"", "a"})
}

// TestManyTexts: texts of ways, and what becomes of them by few changes.
func TestManyTexts(t *testing.T) { // P15.1, P15.3
	pick := rand.New(rand.NewSource(15))
	alphabet := []string{"/", "[", "]", "a", "z", "0", "9", "-", "A", " ", "é", "\xff", "\x00", "//", "[]", "][", "/b", "[c]", tooLong, "_"}
	for range 200000 {
		var way []api.Step
		for range pick.Intn(8) {
			step := api.Step{Name: names[pick.Intn(len(names))]}
			if pick.Intn(2) == 0 {
				step.Key = names[pick.Intn(len(names))]
			}
			way = append(way, step)
		}
		wantModelShow(t, way)
		text := ""
		for _, step := range way {
			text += modelShow([]api.Step{step})
		}
		wantModel(t, text)
		for range 1 + pick.Intn(3) {
			at := pick.Intn(len(text) + 1)
			behind := min(len(text), at+pick.Intn(3))
			text = text[:at] + alphabet[pick.Intn(len(alphabet))] + text[behind:]
		}
		wantModel(t, text)
	}
}

// nodes is all that a version has but the root, by hand: behind each list stands a [], for a key.
func nodes(version int) []string {
	limit := "limit"
	if version == 3 {
		limit = "depth"
	}
	l := []string{
		"/system", "/port[]", "/port[]/up", "/port[]/default", "/port[]/class[]", "/port[]/rule[]",
		"/port[]/class[]/quantum", "/port[]/class[]/rate", "/port[]/class[]/burst", "/port[]/class[]/" + limit,
		"/port[]/rule[]/low", "/port[]/rule[]/high", "/port[]/rule[]/class",
	}
	if version > 1 {
		l = append(l, "/port[]/class[]/shaped", "/port[]/kind")
	}
	if version > 2 {
		l = append(l, "/wait")
	}
	return l
}

// unlike is what a version hasn't, though another one has.
func unlike(version int) []string {
	l := []string{"/port[]/class[]/depth", "/port[]/class[]/shaped", "/port[]/kind", "/wait"}
	switch version {
	case 2:
		l = []string{"/port[]/class[]/depth", "/wait"}
	case 3:
		l = []string{"/port[]/class[]/limit"}
	}
	return l
}

// withKeys is the way of a node as nodes has it, each list with a key.
func withKeys(node, key string) []api.Step {
	var way []api.Step
	for _, name := range strings.Split(node, "/")[1:] {
		name, list := strings.CutSuffix(name, "[]")
		step := api.Step{Name: name}
		if list {
			step.Key = key
		}
		way = append(way, step)
	}
	return way
}

// versions calls for each version that there is.
func versions(call func(version int)) {
	for version := 1; version <= 3; version++ {
		call(version)
	}
}

// noVersions is numbers that no version has.
var noVersions = []int{0, 4, 5, 27, 28, 255, 256, 257, 259, 1<<32 + 1, 1<<32 + 3, -1, -2, -3, -255, -1<<32 + 1, math.MinInt, math.MinInt + 1, math.MaxInt, math.MaxInt - 1}

// wantSpec asks for what stands at the end of a way.
func wantSpec(t *testing.T, version int, way []api.Step) {
	t.Helper()
	var names []string
	for _, step := range way {
		names = append(names, step.Name)
	}
	want, err := spec.At(version, names)
	if err != api.OK {
		t.Fatalf("version %d has no %q", version, names)
	}
	s, err := path.At(version, way)
	if err != api.OK || !reflect.DeepEqual(s, want) {
		t.Errorf("At(%d, %q) = %v, %d, want %v", version, way, s, err, want)
	}
}

// wantNoSpec asks for an error, beside which there is nothing.
func wantNoSpec(t *testing.T, version int, way []api.Step, want api.Errno) {
	t.Helper()
	if s, err := path.At(version, way); err != want || !reflect.DeepEqual(s, spec.Spec{}) {
		t.Errorf("At(%d, %.200q) = %v, %d, want %d", version, way, s, err, want)
	}
}

func TestAt(t *testing.T) { // P15.2
	versions(func(version int) {
		wantSpec(t, version, nil)
		wantSpec(t, version, []api.Step{})
		for _, node := range nodes(version) {
			for _, key := range names {
				wantSpec(t, version, withKeys(node, key))
			}
			kind := spec.Leaf
			if strings.HasSuffix(node, "[]") {
				kind = spec.List
			}
			way := withKeys(node, "a")
			s, _ := path.At(version, way)
			if s.Name != way[len(way)-1].Name || s.Kind != kind {
				t.Errorf("At(%d, %q) = %v", version, way, s)
			}
		}
	})
	s, err := path.At(3, steps("port", "a", "class", "gold", "depth", ""))
	if err != api.OK || s.Name != "depth" || s.Kind != spec.Leaf || s.Type != api.Uint || s.Min != 1 || s.Max != 64 || !s.Must {
		t.Errorf("%v, %d", s, err)
	}
	s, err = path.At(1, steps("port", "a"))
	if err != api.OK || s.Name != "port" || s.Kind != spec.List || s.Most != 4 || len(s.Kids) != 4 {
		t.Errorf("%v, %d", s, err)
	}
	s, err = path.At(2, nil)
	if err != api.OK || s.Name != "" || s.Kind != spec.Box || len(s.Kids) != 2 {
		t.Errorf("%v, %d", s, err)
	}
}

// TestDifferentKeys: each list of a way has a key of its own.
func TestDifferentKeys(t *testing.T) { // P15.2
	versions(func(version int) {
		for _, node := range nodes(version) {
			way := withKeys(node, "a")
			for i := range way {
				if way[i].Key != "" {
					way[i].Key = names[i+4]
				}
			}
			wantSpec(t, version, way)
		}
	})
}

func TestNoVersion(t *testing.T) { // P15.2
	for _, version := range noVersions {
		wantNoSpec(t, version, nil, api.Version)
		wantNoSpec(t, version, []api.Step{}, api.Version)
		for _, node := range nodes(3) {
			wantNoSpec(t, version, withKeys(node, "a"), api.Version)
		}
		// The version is wrong ahead of each step.
		wantNoSpec(t, version, steps("nothing", ""), api.Version)
		wantNoSpec(t, version, steps("port", ""), api.Version)
		wantNoSpec(t, version, steps("system", "a"), api.Version)
		wantNoSpec(t, version, make([]api.Step, 7), api.Version)
	}
}

// kidless is names that no kid of any node has.
var kidless = []string{"", " ", "x", "Port", "PORT", "por", "ports", "port ", " port", "port\x00", "port[a]", "/port", "port/up", "port[]", "/", "root", "(root)", "é", "\xff", tooLong, "limits", "dept", "0", "-", "*", ".", ".."}

func TestNoName(t *testing.T) { // P15.2
	versions(func(version int) {
		for _, node := range append([]string{""}, nodes(version)...) {
			var way []api.Step
			if node != "" {
				way = withKeys(node, "a")
			}
			for _, name := range kidless {
				for _, key := range []string{"", "a", "A", longest} {
					wantNoSpec(t, version, joined(way, api.Step{Name: name, Key: key}), api.ErrName)
					wantNoSpec(t, version, joined(way, api.Step{Name: name, Key: key}, api.Step{Name: "up"}), api.ErrName)
				}
			}
		}
		for _, node := range unlike(version) {
			wantNoSpec(t, version, withKeys(node, "a"), api.ErrName)
		}
	})
}

// TestOtherNodes: what one node has, another one need not have; a leaf has nothing.
func TestOtherNodes(t *testing.T) { // P15.2
	versions(func(version int) {
		for _, node := range append([]string{""}, nodes(version)...) {
			for _, other := range nodes(version) {
				last := other[strings.LastIndex(other, "/"):]
				way := withKeys(node+last, "a")
				if slices.Contains(nodes(version), node+last) {
					wantSpec(t, version, way)
					continue
				}
				// It may be there, as a leaf where the other one is a list.
				want := api.ErrName
				if slices.ContainsFunc(nodes(version), func(s string) bool {
					return s != node+last && strings.TrimSuffix(s, "[]") == strings.TrimSuffix(node+last, "[]")
				}) {
					want = api.ErrValue
				}
				wantNoSpec(t, version, way, want)
			}
		}
	})
}

func TestListKeys(t *testing.T) { // P15.2
	versions(func(version int) {
		for _, node := range nodes(version) {
			for i, step := range withKeys(node, "a") {
				if step.Key == "" {
					continue
				}
				for _, key := range append([]string{""}, noNames...) {
					way := withKeys(node, "a")
					way[i].Key = key
					wantNoSpec(t, version, way, api.ErrValue)
				}
			}
		}
	})
}

func TestLeafKeys(t *testing.T) { // P15.2
	versions(func(version int) {
		for _, node := range nodes(version) {
			if strings.HasSuffix(node, "[]") {
				continue
			}
			for _, key := range append(noNames, names...) {
				way := withKeys(node, "a")
				way[len(way)-1].Key = key
				wantNoSpec(t, version, way, api.ErrValue)
				// It is wrong ahead of what a leaf hasn't.
				wantNoSpec(t, version, joined(way, api.Step{Name: "x"}), api.ErrValue)
			}
		}
	})
}

// TestFirstError: of two steps that are wrong the first one counts, and of a step its name ahead of its key.
func TestFirstError(t *testing.T) { // P15.2
	spoil := []struct {
		err   api.Errno
		spoil func(step *api.Step)
	}{
		{api.ErrName, func(step *api.Step) { step.Name = "x" }},
		{api.ErrName, func(step *api.Step) { step.Name = "" }},
		{api.ErrName, func(step *api.Step) { step.Name, step.Key = "x", "A" }},
		{api.ErrName, func(step *api.Step) { step.Name, step.Key = "x", "" }},
		{api.ErrValue, func(step *api.Step) { step.Key = "A" }},
		{api.ErrValue, func(step *api.Step) { step.Key = tooLong }},
	}
	versions(func(version int) {
		for _, node := range nodes(version) {
			way := withKeys(node, "a")
			for i := range way {
				for k := range i {
					for _, one := range spoil {
						for _, two := range spoil {
							wrong := joined(way)
							one.spoil(&wrong[k])
							two.spoil(&wrong[i])
							wantNoSpec(t, version, wrong, one.err)
						}
					}
				}
				for _, one := range spoil {
					wrong := joined(way)
					one.spoil(&wrong[i])
					wantNoSpec(t, version, wrong, one.err)
				}
			}
		}
	})
}

// TestLongWays: ways of more steps than a version has.
func TestLongWays(t *testing.T) { // P15.2
	versions(func(version int) {
		for _, n := range []int{2, 6, 7, 8, 1 << 16} {
			wantNoSpec(t, version, slices.Repeat(steps("port", "a"), n), api.ErrName)
			wantNoSpec(t, version, slices.Repeat(steps("system", ""), n), api.ErrName)
			wantNoSpec(t, version, slices.Repeat(steps("port", ""), n), api.ErrValue)
			wantNoSpec(t, version, joined(steps("port", "a", "class", "b", "rate", ""), make([]api.Step, n)...), api.ErrName)
		}
	})
}

func wantUnder(t *testing.T, way, front []api.Step, want bool) {
	t.Helper()
	if is := path.Under(way, front); is != want {
		t.Errorf("Under(%.200q, %.200q) = %v, want %v", way, front, is, want)
	}
}

func TestUnder(t *testing.T) { // P15.2
	wantUnder(t, steps("port", "a", "up", ""), steps("port", "a"), true)
	wantUnder(t, steps("port", "a"), steps("port", "a", "up", ""), false)
	wantUnder(t, nil, nil, true)
	wantUnder(t, nil, []api.Step{}, true)
	wantUnder(t, []api.Step{}, nil, true)
	wantUnder(t, nil, make([]api.Step, 1), false)
	wantUnder(t, make([]api.Step, 1), nil, true)
	wantUnder(t, make([]api.Step, 1), make([]api.Step, 1), true)
	wantUnder(t, make([]api.Step, 2), make([]api.Step, 1), true)
	wantUnder(t, make([]api.Step, 1), make([]api.Step, 2), false)
	// A step is its name and its key, not its text.
	wantUnder(t, steps("a[b]", ""), steps("a", "b"), false)
	wantUnder(t, steps("a", "b"), steps("a[b]", ""), false)
	wantUnder(t, steps("a/b", ""), steps("a", "", "b", ""), false)
	wantUnder(t, steps("a", "", "b", ""), steps("a/b", ""), false)
	wantUnder(t, steps("ab", ""), steps("a", "b"), false)
	wantUnder(t, steps("", "a"), steps("a", ""), false)
	wantUnder(t, steps("a", ""), steps("", "a"), false)
	wantUnder(t, steps("a", "b"), steps("b", "a"), false)
	wantUnder(t, steps("ab", "cd"), steps("a", "c"), false)
	wantUnder(t, steps("ab", "cd"), steps("ab", "c"), false)
	wantUnder(t, steps("ab", "c"), steps("ab", "cd"), false)
	wantUnder(t, steps("port", "a"), steps("port", ""), false)
	wantUnder(t, steps("port", ""), steps("port", "a"), false)
	wantUnder(t, steps("port", "a"), steps("port", "A"), false)
	wantUnder(t, steps("x", "", "a", "", "b", ""), steps("a", "", "b", ""), false)
	wantUnder(t, steps("x", "", "a", "", "b", ""), steps("b", ""), false)
	wantUnder(t, steps("é\xff", "\x00"), steps("é\xff", "\x00"), true)
	wantUnder(t, steps("é\xff", "\x00"), steps("é\xfe", "\x00"), false)
}

// TestUnderSteps: ways of each length, and what differs at one step, in the name or in the key alone.
func TestUnderSteps(t *testing.T) { // P15.2
	for _, n := range []int{1, 2, 3, 5, 6, 7, 8, 9, 30} {
		var way []api.Step
		for i := range n {
			way = append(way, good(9)[i%9])
		}
		for size := range n + 1 {
			wantUnder(t, way, way[:size], true)
			wantUnder(t, way, joined(way[:size]), true)
			wantUnder(t, way[:size], way, size == n)
			for i := range size {
				for _, spoil := range []func(*api.Step){
					func(step *api.Step) { step.Name += "x" },
					func(step *api.Step) { step.Name = step.Name[1:] },
					func(step *api.Step) { step.Name = "" },
					func(step *api.Step) { step.Name = "A" + step.Name[1:] },
					func(step *api.Step) { step.Key += "x" },
					func(step *api.Step) { step.Key = "A" },
					func(step *api.Step) { step.Name, step.Key = "", "x" },
				} {
					front := joined(way[:size])
					spoil(&front[i])
					wantUnder(t, way, front, false)
					wantUnder(t, front, way, false)
					wantUnder(t, joined(front, way[size:]...), way[:size], false)
					// What differs behind the front plays no part.
					wantUnder(t, joined(front, way[size:]...), way[:i], true)
				}
			}
		}
	}
}

// TestUnderAll: all pairs of ways of few steps.
func TestUnderAll(t *testing.T) { // P15.2
	var ways [][]api.Step
	var all func(way []api.Step, left int)
	all = func(way []api.Step, left int) {
		ways = append(ways, way)
		if left == 0 {
			return
		}
		for _, step := range steps("a", "", "a", "k", "b", "", "b", "k", "", "a") {
			all(joined(way, step), left-1)
		}
	}
	all(nil, 3)
	for _, way := range ways {
		for _, front := range ways {
			want := len(front) <= len(way)
			for i := range front {
				want = want && way[i].Name == front[i].Name && way[i].Key == front[i].Key
			}
			wantUnder(t, way, front, want)
		}
	}
}

// roomy is a way with room behind it, in which something stands.
func roomy(way []api.Step) []api.Step {
	l := joined(way, steps("up", "", "q", "r", "s", "t")...)
	return l[:len(way)]
}

// TestArguments: what is handed in stays as it is, its room too, and what stands in its room plays no part.
func TestArguments(t *testing.T) { // P15.1, P15.2
	var ways [][]api.Step
	for n := range 10 {
		ways = append(ways, good(n))
	}
	for _, node := range nodes(3) {
		ways = append(ways, withKeys(node, "a"), withKeys(node, ""), withKeys(node, "A"))
	}
	ways = append(ways, steps("x", ""), steps("system", "a"), steps("", ""))
	same := func(way, kept []api.Step) {
		t.Helper()
		if !slices.Equal(way[:cap(way)], kept[:cap(kept)]) {
			t.Errorf("%q is now %q", kept[:cap(kept)], way[:cap(way)])
		}
	}
	for _, way := range ways {
		kept := slices.Clip(joined(way))
		room, before := roomy(way), roomy(way)
		if path.Show(room) != path.Show(kept) {
			t.Errorf("%q: %q", kept, path.Show(room))
		}
		same(room[:len(room):len(room)+3], before[:len(before):len(before)+3])
		for version := range 5 {
			s, err := path.At(version, room)
			other, otherErr := path.At(version, kept)
			if err != otherErr || !reflect.DeepEqual(s, other) {
				t.Errorf("At(%d, %q): %v, %d and %v, %d", version, kept, s, err, other, otherErr)
			}
			same(room[:len(room):len(room)+3], before[:len(before):len(before)+3])
		}
		for _, front := range ways {
			other, otherBefore := roomy(front), roomy(front)
			wantUnder(t, room, other, path.Under(kept, front))
			same(room[:len(room):len(room)+3], before[:len(before):len(before)+3])
			same(other[:len(other):len(other)+3], otherBefore[:len(otherBefore):len(otherBefore)+3])
		}
	}
}

// spots is the kids of a Spec and of all that it has, and so its names.
func spots(s spec.Spec) ([][]spec.Spec, [][]string) {
	kids, names := [][]spec.Spec{s.Kids}, [][]string{s.Names}
	for _, kid := range s.Kids {
		k, n := spots(kid)
		kids, names = append(kids, k...), append(names, n...)
	}
	return kids, names
}

// TestNewMemory: an answer may be written over, and no other one, nor an argument, is changed by that.
func TestNewMemory(t *testing.T) { // P15.1, P15.2
	text := "/port[a]/class[b]/rate"
	want := steps("port", "a", "class", "b", "rate", "")
	one, _, _ := path.Parse(text)
	two, _, _ := path.Parse(text)
	clear(one[:cap(one)])
	if !slices.Equal(two, want) {
		t.Errorf("%q", two)
	}
	wantParse(t, text, want)

	versions(func(version int) {
		for _, node := range append([]string{""}, nodes(version)...) {
			var way []api.Step
			if node != "" {
				way = withKeys(node, "a")
			}
			s, _ := path.At(version, way)
			other, _ := path.At(version, way)
			kids, names := spots(s)
			for _, l := range kids {
				for i := range l[:cap(l)] {
					l[:cap(l)][i] = spec.Spec{Name: "x", Kind: 9}
				}
			}
			for _, l := range names {
				for i := range l[:cap(l)] {
					l[:cap(l)][i] = "x"
				}
			}
			wantSpec(t, version, way)
			if again, _ := path.At(version, way); !reflect.DeepEqual(again, other) {
				t.Errorf("At(%d, %q): %v and %v", version, way, again, other)
			}
		}
	})

	// A text and an answer stay, whatever becomes of the way.
	way := steps("port", "a", "up", "")
	s := path.Show(way)
	clear(way)
	if s != "/port[a]/up" {
		t.Errorf("%q", s)
	}
}

// TestSameAgain: what is answered hangs on nothing but what is given.
func TestSameAgain(t *testing.T) { // P15.1, P15.2
	for range 3 {
		for _, p := range ownProblems {
			wantProblem(t, "/a"+p.text, p.err, 2+p.place)
			wantBoth(t, good(6), "/a/b-1[k]/abcdefghijkl/port[abcdefghijkl]/x/q[z9]")
			wantShow(t, good(7), "")
		}
		versions(func(version int) {
			for _, node := range nodes(version) {
				wantSpec(t, version, withKeys(node, "a"))
				wantNoSpec(t, version, withKeys(node+"/x", "a"), api.ErrName)
			}
		})
		wantUnder(t, good(6), good(3), true)
		wantUnder(t, good(3), good(6), false)
	}
}

// TestPieces: a text's parts may be of one greater text, of which the rest plays no part.
func TestPieces(t *testing.T) { // P15.1
	text := "/a[b]/c/d[e]/f/g[h]/i/j[k]"
	for begin := range len(text) + 1 {
		for end := begin; end <= len(text); end++ {
			wantModel(t, text[begin:end])
		}
	}
}

// FuzzParse is for go test -fuzz; without that it takes what is added here alone.
func FuzzParse(f *testing.F) {
	for n := range 10 {
		f.Add(modelShow(good(n)))
	}
	for _, p := range ownProblems {
		f.Add("/a" + p.text)
		f.Add("/a[b]/c/d/e" + p.text + "/f/g")
	}
	f.Fuzz(func(t *testing.T, s string) { wantModel(t, s) })
}
