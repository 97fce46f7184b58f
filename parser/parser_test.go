package parser_test

import (
	"math/rand"
	"slices"
	"strconv"
	"strings"
	"testing"

	"tollbar/api"
	"tollbar/lex"
	"tollbar/parser"
	"tollbar/printer"
	"tollbar/scalar"
	"tollbar/spec"
	"tollbar/tree"
	"tollbar/valid"
	"tollbar/value"
)

// The call of the chapter, with just this signature.
var _ func(string) (int, api.Node, api.Errno, api.Pos) = parser.Parse

// step is the step of a short text: a name, or a name and a key in brackets.
func step(s string) api.Step {
	name, key, _ := strings.Cut(strings.TrimSuffix(s, "]"), "[")
	return api.Step{Name: name, Key: key}
}

// box is a node that is no leaf; the others are leaves.
func box(s string, kids ...api.Node) api.Node {
	return api.Node{Name: step(s).Name, Key: step(s).Key, Kids: kids}
}

func with(n api.Node, kind int, num uint64, text string) api.Node {
	n.Val = api.Val{Kind: kind, Num: num, Text: text}
	return n
}

func num(s string, n uint64) api.Node  { return with(box(s), api.Uint, n, "") }
func rate(s string, n uint64) api.Node { return with(box(s), api.Rate, n, "") }
func flag(s string, n uint64) api.Node { return with(box(s), api.Bool, n, "") }
func enum(s, text string) api.Node     { return with(box(s), api.Enum, 0, text) }
func ident(s, text string) api.Node    { return with(box(s), api.Ident, 0, text) }
func ref(s, text string) api.Node      { return with(box(s), api.Ref, 0, text) }

// limit is what the leaf of a class that bounds its queue is named.
func limit(version int) string {
	if version == 3 {
		return "depth"
	}
	return "limit"
}

func class(version int, key string) api.Node {
	n := box("class["+key+"]", num("burst", 3000), num(limit(version), 8), num("quantum", 1500), rate("rate", 1000))
	if version > 1 {
		n.Kids = append(n.Kids, flag("shaped", 1))
	}
	return tree.Sorted(n)
}

func rule(key, class string) api.Node {
	return box("rule["+key+"]", ref("class", class), num("high", 19), num("low", 10))
}

// full is a valid tree with everything that a version has, made anew for each call.
func full(version int) api.Node {
	port := box("port[a]", class(version, "be"), class(version, "gold"), class(version, "idle"), ref("default", "be"), rule("r", "gold"), rule("s", "be"), flag("up", 1))
	if version > 1 {
		port.Kids = append(port.Kids, enum("kind", "core"))
	}
	n := box("", port, box("port[b]", class(version, "x"), ref("default", "x")), ident("system", "s"))
	if version > 2 {
		n.Kids = append(n.Kids, num("wait", 1000))
	}
	return tree.Sorted(n)
}

// crowd is a valid tree with as many ports, classes and rules as a version lets be, and keys that end alike.
func crowd(version int, tail string) api.Node {
	var n api.Node
	for p := range api.MaxPorts {
		port := box("port[p"+strconv.Itoa(p)+tail+"]", ref("default", "c0"+tail))
		for c := range api.MaxClasses {
			port.Kids = append(port.Kids, class(version, "c"+strconv.Itoa(c)+tail))
		}
		for r := range api.MaxRules {
			port.Kids = append(port.Kids, rule("r"+strconv.Itoa(r)+tail, "c"+strconv.Itoa(r%api.MaxClasses)+tail))
		}
		n.Kids = append(n.Kids, port)
	}
	return tree.Sorted(n)
}

// versions calls for each version that there is.
func versions(call func(version int)) {
	for version := 1; version <= 3; version++ {
		call(version)
	}
}

// opening is what a text of a version begins with.
func opening(version int) string { return "version " + strconv.Itoa(version) + ";" }

// show is a tree as text, for reports.
func show(n api.Node) string {
	s := strconv.Quote(n.Name) + "[" + strconv.Quote(n.Key) + "]"
	if n.Val != (api.Val{}) {
		s += "=" + strconv.Itoa(n.Val.Kind) + ":" + strconv.FormatUint(n.Val.Num, 10) + ":" + strconv.Quote(n.Val.Text)
	}
	var l []string
	for _, kid := range n.Kids {
		l = append(l, show(kid))
	}
	return s + "{" + strings.Join(l, " ") + "}"
}

func clipped(s string) string {
	if len(s) > 3000 {
		return s[:3000] + ".."
	}
	return s
}

// wantTree has a text be a valid tree.
func wantTree(t *testing.T, s string, version int, n api.Node) {
	t.Helper()
	if err, w := valid.Check(version, n); err != api.OK {
		t.Fatalf("%s: %d at %v", clipped(show(n)), err, w)
	}
	v, got, err, at := parser.Parse(s)
	if v != version || !tree.Same(got, n) || err != api.OK || at != (api.Pos{}) {
		t.Errorf("Parse(%q) = %d, %s, %d, %v, not %d, %s", clipped(s), v, clipped(show(got)), err, at, version, clipped(show(n)))
	}
}

// wantErr has a text be refused.
func wantErr(t *testing.T, s string, err api.Errno, at api.Pos) {
	t.Helper()
	v, n, e, place := parser.Parse(s)
	if v != 0 || !tree.Same(n, api.Node{}) || e != err || place != at {
		t.Errorf("Parse(%q) = %d, %s, %d, %v, not %d, %v", clipped(s), v, clipped(show(n)), e, place, err, at)
	}
}

// mark is what stands in a text ahead of the token that is wrong; no token has it.
const mark = "^"

// wantAt has a text be refused at its mark, which is taken out of it.
func wantAt(t *testing.T, err api.Errno, s string) {
	t.Helper()
	ahead, behind, ok := strings.Cut(s, mark)
	if !ok {
		t.Fatalf("%q has no mark", s)
	}
	line := ahead[strings.LastIndex(ahead, "\n")+1:]
	wantErr(t, ahead+behind, err, api.Pos{Line: 1 + strings.Count(ahead, "\n"), Col: 1 + len([]rune(line))})
}

// wantAll has texts be refused at their marks.
func wantAll(t *testing.T, err api.Errno, texts ...string) {
	t.Helper()
	for _, s := range texts {
		wantAt(t, err, s)
	}
}

// wantEach has texts of each version from the first to the last one be refused at their marks; what a version begins with is left out.
func wantEach(t *testing.T, err api.Errno, first, last int, texts ...string) {
	t.Helper()
	for version := first; version <= last; version++ {
		for _, s := range texts {
			wantAt(t, err, opening(version)+" "+s)
			wantAt(t, err, opening(version)+"\n# é\n\t"+s)
		}
	}
}

// model is what Parse answers, told by one look at each token, in order.
func model(s string) (int, api.Node, api.Errno, api.Pos) {
	l, err, at := lex.All(s)
	if err != api.OK {
		return 0, api.Node{}, err, at
	}
	m := machine{next: "version"}
	for _, token := range l {
		if err := m.read(token); err != api.OK {
			return 0, api.Node{}, err, token.At
		}
	}
	n := tree.Sorted(m.boxes[0].n)
	if err, _ := valid.Check(m.version, n); err != api.OK {
		return 0, api.Node{}, err, api.Pos{}
	}
	return m.version, n, api.OK, api.Pos{}
}

// open is a node that is not ended yet.
type open struct {
	s spec.Spec
	n api.Node
}

func (o open) has(step api.Step) bool {
	for _, kid := range o.n.Kids {
		if kid.Name == step.Name && kid.Key == step.Key {
			return true
		}
	}
	return false
}

// machine is what must come next, and what there is so far.
type machine struct {
	next    string
	version int
	boxes   []open
	s       spec.Spec
	n       api.Node
}

// last is the node that is read.
func (m *machine) last() *open { return &m.boxes[len(m.boxes)-1] }

// lay lays a kid into it.
func (m *machine) lay(n api.Node) { m.last().n.Kids = append(m.last().n.Kids, n) }

func (m *machine) read(token lex.Token) api.Errno {
	kinds := map[string][]int{
		"version": {lex.Word}, "number": {lex.Word}, "first semi": {lex.Semi}, "key": {lex.Word, lex.String}, "open": {lex.Open},
		"value": {lex.Word, lex.String}, "semi": {lex.Semi}, "part": {lex.Word, lex.Close},
	}[m.next]
	if m.next == "part" && len(m.boxes) == 1 {
		kinds = []int{lex.Word, lex.End}
	}
	if !slices.Contains(kinds, token.Kind) {
		return api.ErrSyntax
	}
	switch m.next {
	case "version":
		m.next = "number"
		if token.Text != "version" {
			return api.ErrSyntax
		}
	case "number":
		m.next = "first semi"
		number, ok := scalar.Uint(token.Text)
		if !ok || number < 1 || number > 3 {
			return api.Version
		}
		m.version = int(number)
		root, _ := spec.Root(m.version)
		m.boxes = []open{{s: root}}
	case "first semi":
		m.next = "part"
	case "part":
		return m.part(token)
	case "key":
		m.next = "open"
		if !scalar.Ident(token.Text) {
			return api.ErrValue
		}
		m.n.Key = token.Text
		if m.last().has(api.Step{Name: m.n.Name, Key: m.n.Key}) {
			return api.ErrTwice
		}
	case "open":
		m.next = "part"
		m.boxes = append(m.boxes, open{m.s, m.n})
	case "value":
		m.next = "semi"
		v, err := value.Parse(m.s, token.Text)
		m.n.Val = v
		return err
	case "semi":
		m.next = "part"
		m.lay(m.n)
	}
	return api.OK
}

func (m *machine) part(token lex.Token) api.Errno {
	switch token.Kind {
	case lex.End:
		return api.OK
	case lex.Close:
		n := m.last().n
		m.boxes = m.boxes[:len(m.boxes)-1]
		m.lay(n)
		return api.OK
	}
	place := spec.Find(m.last().s, token.Text)
	if place < 0 {
		return api.ErrName
	}
	m.s, m.n = m.last().s.Kids[place], api.Node{Name: token.Text}
	m.next = map[int]string{spec.Leaf: "value", spec.List: "key", spec.Box: "open"}[m.s.Kind]
	if m.s.Kind != spec.List && m.last().has(api.Step{Name: token.Text}) {
		return api.ErrTwice
	}
	return api.OK
}

// wantModel has a text be what the model makes of it, and tells the error.
func wantModel(t *testing.T, s string) api.Errno {
	t.Helper()
	version, n, err, at := model(s)
	if err != api.OK {
		wantErr(t, s, err, at)
	} else {
		wantTree(t, s, version, n)
	}
	return err
}

func TestExamples(t *testing.T) { // P12.1, P12.2
	wantErr(t, "version 1; wait 5;", api.ErrName, api.Pos{Line: 1, Col: 12})
	wantTree(t, "version 3; wait 5;", 3, box("", num("wait", 5)))
	wantTree(t, `version 3;
port a {
  class be {
    burst 3000;
    depth 8;
    quantum 1500;
    rate 1k;
    shaped true;
  }
  class gold {
    burst 3000;
    depth 4;
    quantum 3000;
    rate 0;
    shaped false;
  }
  default be;
  rule r {
    class gold;
    high 19;
    low 10;
  }
}
`, 3, box("", box("port[a]",
		box("class[be]", num("burst", 3000), num("depth", 8), num("quantum", 1500), rate("rate", 1000), flag("shaped", 1)),
		box("class[gold]", num("burst", 3000), num("depth", 4), num("quantum", 3000), rate("rate", 0), flag("shaped", 0)),
		ref("default", "be"),
		box("rule[r]", ref("class", "gold"), num("high", 19), num("low", 10)))))
}

func TestNothingBehindTheVersion(t *testing.T) { // P12.1, P12.2
	versions(func(version int) {
		for _, behind := range []string{"", " ", "\n", "\r\n\t ", "# none", "\n# none\n"} {
			wantTree(t, opening(version)+behind, version, api.Node{})
		}
		wantTree(t, "version "+strconv.Itoa(version)+" \n ;", version, api.Node{})
	})
}

func TestLexErrors(t *testing.T) { // P12.1
	wantAll(t, api.ErrLex,
		"^@",
		"^=",
		"^\xff",
		"^é",
		"version^=1;",
		"version ^+1;",
		"version 1^, system s;",
		"version 1; system s; ^/",
		"version 1;\nsystem s;\n  port a ^[",
		"version 1; # é\n system s^é;",
		// Within a string.
		"\"^",
		"version 1; system \"s^",
		"version 1; system \"s^\n\";",
		"version 1; system \"s;^",
		"version 1; system \"^\xff\";",
		`version 1; system "\^q";`,
		`version 1; system "\x^g0";`,
		`version 1; system "\x0^A";`,
		// Ahead of what is wrong with the tokens, wherever that is.
		"x ^@",
		"; ^@",
		"version 9; ^@",
		"version 1; x y; ^@",
		"version 1; system S; ^@",
		"version 1; system s; system s; ^@",
		"version 1; port a { } port a { } ^@",
		"version 1; } } ^@",
		"version 1; port a {\n ^@",
		"version 1; port a { default x; } \n\n \"^\n",
		"version 1; port a { } ^$ port 1 { }",
		"version; \"^",
	)
}

// widen gives each leaf the value with the longest text, but those that name a class.
func widen(kids []api.Node) {
	widest := map[string]uint64{"burst": 1000000, "quantum": 100000, "rate": 999999, "limit": 64, "depth": 64, "low": 65535, "high": 65535}
	for i := range kids {
		kids[i].Val.Num = widest[kids[i].Name]
		widen(kids[i].Kids)
	}
}

func TestTooLong(t *testing.T) { // P12.1, P12.3
	text := printer.Text(3, full(3))
	for _, s := range []string{"", "x", "version 1;", "version 9;", "version 1; system S;", "version 1; port a { }", text} {
		for _, fill := range []string{" ", "\n", "#", ";", "@", "x", "\"", "\xff", "{"} {
			wantErr(t, s+strings.Repeat(fill, api.MaxBytes+1-len(s)), api.ErrBig, api.Pos{})
			wantErr(t, s+strings.Repeat(fill, 3*api.MaxBytes), api.ErrBig, api.Pos{})
		}
	}
	versions(func(version int) {
		n := crowd(version, "-abcdefgh")
		widen(n.Kids)
		s := printer.Text(version, n)
		if len(s) <= api.MaxBytes {
			t.Fatalf("version %d: a text of %d bytes", version, len(s))
		}
		wantErr(t, s, api.ErrBig, api.Pos{})
	})
	// As long as it may be.
	for _, fill := range []string{" ", "\n", "#"} {
		wantTree(t, text+strings.Repeat(fill, api.MaxBytes-len(text)), 3, full(3))
	}
	name := strings.Repeat("s", api.MaxBytes-len("version 1; "))
	wantAt(t, api.ErrName, "version 1; ^"+name)
	wantAt(t, api.ErrSyntax, strings.Repeat(" ", api.MaxBytes)+"^")
	wantAt(t, api.ErrSyntax, strings.Repeat("\n", api.MaxBytes)+"^")
	wantAt(t, api.Version, "version ^"+strings.Repeat("1", api.MaxBytes-len("version ")))
	wantAt(t, api.ErrValue, "version 1; system ^"+strings.Repeat("s", api.MaxBytes-len("version 1; system ")))
	wantAt(t, api.ErrValue, "version 1; port ^\""+strings.Repeat("p", api.MaxBytes-len("version 1; port \"\""))+"\"")
}

func TestNoOpening(t *testing.T) { // P12.1
	wantAll(t, api.ErrSyntax,
		"^",
		" ^",
		"\n\n^",
		"# version 1;^",
		"# version 1;\n^",
		// Another token than the Word version.
		"^;",
		"^{",
		"^}",
		"^\"version\" 1;",
		"^\"\"",
		"^x",
		"^1;",
		"^system s;",
		"^port a { }",
		"^Version 1;",
		"^VERSION 1;",
		"^versions 1;",
		"^versio 1;",
		"^version-1;",
		"^version1;",
		"^version. 1;",
		" \n\t^;version 1;",
		"^x version 1;",
		"^; version 1;",
	)
}

func TestNoNumber(t *testing.T) { // P12.1
	wantAll(t, api.ErrSyntax,
		"version^",
		"version ^",
		"version\n^",
		"version # 1;^",
		"version^;",
		"version ^; system s;",
		"version ^\"1\";",
		"version^\"1\";",
		"version ^\"\";",
		"version ^\"4\";",
		"version ^{ }",
		"version ^}",
		"version\n ^;",
	)
}

func TestVersion(t *testing.T) { // P12.1
	for _, number := range []string{
		// No number.
		"x", "version", "system", "-1", "-", ".", "1.0", "1.", ".1", "01", "00", "001", "1k", "1m", "0x1", "1_", "_1", "1e0", "one", "v1", "3-", "I", "1-3",
		"18446744073709551616", "18446744073709551617", "18446744073709551619", "99999999999999999999999999",
		// No version.
		"0", "4", "5", "10", "11", "12", "13", "21", "31", "33", "100", "255", "256", "257", "65537", "65539",
		"2147483647", "2147483648", "2147483649", "4294967295", "4294967296", "4294967297", "4294967298", "4294967299",
		"9223372036854775807", "9223372036854775808", "9223372036854775809", "9223372036854775811", "18446744073709551613", "18446744073709551615",
	} {
		for _, behind := range []string{"", ";", " ; system s;", " x", " }", " {", " \"x\"", "; x", "; }", "; system S;", "\n;"} {
			wantAt(t, api.Version, "version ^"+number+behind)
			wantAt(t, api.Version, "\nversion\n  ^"+number+behind)
		}
	}
}

func TestNoSemiBehindNumber(t *testing.T) { // P12.1
	for _, number := range []string{"1", "2", "3"} {
		for _, s := range []string{"^", " ^", "\n^", " # ;^", " ^x", " ^system s;", " ^1;", " ^\";\"", " ^\"\"", "^{", "^}", " ^{ } ;", " ^port a { }"} {
			wantAt(t, api.ErrSyntax, "version "+number+s)
		}
	}
}

// TestNeitherPartNorEnd has tokens where a name, or what ends the parts, should be.
func TestNeitherPartNorEnd(t *testing.T) { // P12.1
	for _, ahead := range []string{"", "system s; ", "port a { } ", "port a { up true; } ", "system s; port a { class x { } } port b { } "} {
		wantEach(t, api.ErrSyntax, 1, 3,
			ahead+"^;",
			ahead+"^; system t;",
			ahead+"^{",
			ahead+"^{ }",
			ahead+"^}",
			ahead+"^} system t;",
			ahead+"^\"system\" t;",
			ahead+"^\"\"",
			ahead+"^\"port\" c { }",
			ahead+"^\"x\" y;",
		)
	}
	for _, ahead := range []string{"port a {", "port a { up true;", "port a { class x { }", "port a { class x { } rule r { } default x;", "port a { class x {", "port a { class x { burst 3000;", "port a { rule r {", "port a { rule r { low 1;", "port b { } port a { rule r { } rule s {"} {
		wantEach(t, api.ErrSyntax, 1, 3,
			ahead+"^",
			ahead+" ^",
			ahead+" # }\n^",
			ahead+"^;",
			ahead+" ^; }",
			ahead+"^{",
			ahead+" ^{ }",
			ahead+" ^\"up\" true; }",
			ahead+" ^\"low\" 1; }",
			ahead+" ^\"x\" 1; }",
			ahead+" ^\"\"",
		)
	}
}

// TestCloses has too few of them, and too many.
func TestCloses(t *testing.T) { // P12.1
	wantEach(t, api.ErrSyntax, 1, 3,
		"port a { class x {^",
		"port a { class x { }^",
		"port a { class x { } ^",
		"port a { class x { } rule r { }^",
		"port a { class x { } rule r { ^",
		"port a { } port b {^",
		"port a { } ^}",
		"port a { class x { } } ^}",
		"port a { class x { } } ^}}",
		"port a { class x { } rule r { } } ^} system s;",
		"port a { } port b { } ^} port c { }",
	)
	versions(func(version int) {
		s := strings.TrimSpace(printer.Text(version, full(version)))
		wantAt(t, api.ErrSyntax, s+" ^}")
		wantAt(t, api.ErrSyntax, s+"^;")
		wantAll(t, api.ErrName, s+"^"+opening(version), s+"\n^"+opening(version), s+"^"+s)
	})
}

func TestNoValue(t *testing.T) { // P12.1
	leaves := func(ahead string, names ...string) {
		for _, name := range names {
			for version := 1; version <= 3; version++ {
				name := name
				if name == "limit" {
					name = limit(version)
				}
				s := opening(version) + ahead + name
				wantAll(t, api.ErrSyntax, s+"^", s+" ^", s+"\n^", s+"^;", s+" ^; }", s+"^{", s+" ^{ }", s+" ^{ x;", s+"^}", s+" ^} ;")
			}
		}
	}
	leaves("", "system")
	leaves("port a {", "up", "default")
	leaves("port a { class x {", "quantum", "rate", "burst", "limit")
	leaves("port a { rule r {", "low", "high", "class")
	wantEach(t, api.ErrSyntax, 2, 3, "port a { kind ^;", "port a { class x { shaped^}")
	wantEach(t, api.ErrSyntax, 3, 3, "wait ^;", "wait^", "wait ^{ }")
}

func TestNoSemiBehindValue(t *testing.T) { // P12.1
	for _, ahead := range []string{"system s", "system \"s\"", "port a { up true", "port a { default x", "port a { class x { rate 1k", "port a { class x { burst 3000", "port a { rule r { low 1", "port a { rule r { class x"} {
		wantEach(t, api.ErrSyntax, 1, 3,
			ahead+"^",
			ahead+" # ;^",
			ahead+" ^x;",
			ahead+" ^1;",
			ahead+" ^\"x\";",
			ahead+"^\";\"",
			ahead+"^{",
			ahead+" ^{ };",
			ahead+"^}",
			ahead+" ^} ;",
			ahead+" ^system s;",
		)
	}
	wantEach(t, api.ErrSyntax, 2, 3, "port a { kind lab ^}", "port a { class x { shaped true ^x;")
	wantEach(t, api.ErrSyntax, 3, 3, "wait 5^", "wait 5 ^system s;", "wait \"5\" ^\"6\";")
}

func TestNoKey(t *testing.T) { // P12.1
	for _, ahead := range []string{"port", "port a { class", "port a { rule", "port a { class x { } class", "port a { } port"} {
		wantEach(t, api.ErrSyntax, 1, 3,
			ahead+"^",
			ahead+" ^",
			ahead+" # x {^",
			ahead+"^;",
			ahead+" ^; x {",
			ahead+"^{",
			ahead+" ^{ }",
			ahead+" ^{ up true; }",
			ahead+"^}",
			ahead+" ^} x {",
		)
	}
}

func TestNoOpen(t *testing.T) { // P12.1
	for _, ahead := range []string{"port b", "port \"b\"", "port a { class b", "port a { rule b", "port a { rule \"b\"", "port a { class x { } class b", "port a { } port b"} {
		wantEach(t, api.ErrSyntax, 1, 3,
			ahead+"^",
			ahead+" ^",
			ahead+" # {^",
			ahead+"^;",
			ahead+" ^; {",
			ahead+"^}",
			ahead+" ^} {",
			ahead+" ^c {",
			ahead+" ^up true;",
			ahead+" ^\"c\" {",
			ahead+"^\"{\"",
		)
	}
}

func TestNames(t *testing.T) { // P12.1
	wantEach(t, api.ErrName, 1, 3,
		// At the root.
		"^x",
		"^x y;",
		"^x;",
		"^x {",
		"^x }",
		"^1 2;",
		"^version 1;",
		"^systems s;",
		"^syste s;",
		"^System s;",
		"^SYSTEM s;",
		"^system.s;",
		"^ports a { }",
		"^true;",
		"^- s;",
		"^. s;",
		"^_ s;",
		"system s; ^x y;",
		"system s; ^name s;",
		"port a { } ^x",
		// What another node has.
		"^up true;",
		"^default x;",
		"^kind lab;",
		"^class x { }",
		"^rule r { }",
		"^low 1;",
		"^rate 1k;",
		"^quantum 1500;",
		"^shaped true;",
		"^limit 4;",
		"^depth 4;",
		// In a port.
		"port a { ^x",
		"port a { ^x y; }",
		"port a { ^a { }",
		"port a { ^system s; }",
		"port a { ^port b { } }",
		"port a { ^wait 5; }",
		"port a { ^version 1; }",
		"port a { ^low 1; }",
		"port a { ^high 1; }",
		"port a { ^quantum 1500; }",
		"port a { ^burst 1500; }",
		"port a { ^rate 1k; }",
		"port a { ^shaped true; }",
		"port a { ^limit 8; }",
		"port a { ^depth 8; }",
		"port a { ^classes x { }",
		"port a { ^Up true; }",
		"port a { up true; ^x y; }",
		"port a { class x { } ^x y; }",
		"port a { class x { } ^burst 1500; }",
		"port a { } port b { ^system s;",
		// In a class.
		"port a { class x { ^x",
		"port a { class x { ^x y; }",
		"port a { class x { ^class x; }",
		"port a { class x { ^class y { }",
		"port a { class x { ^rule r { }",
		"port a { class x { ^port b { }",
		"port a { class x { ^low 1; }",
		"port a { class x { ^high 1; }",
		"port a { class x { ^up true; }",
		"port a { class x { ^default x; }",
		"port a { class x { ^kind lab; }",
		"port a { class x { ^system s; }",
		"port a { class x { ^wait 5; }",
		"port a { class x { ^bursts 1500; }",
		"port a { class x { burst 1500; ^Burst 1500; }",
		// In a rule.
		"port a { rule r { ^x",
		"port a { rule r { ^rule s { }",
		"port a { rule r { ^default x; }",
		"port a { rule r { ^up true; }",
		"port a { rule r { ^quantum 1500; }",
		"port a { rule r { ^rate 1k; }",
		"port a { rule r { ^burst 1500; }",
		"port a { rule r { ^limit 8; }",
		"port a { rule r { ^depth 8; }",
		"port a { rule r { ^shaped true; }",
		"port a { rule r { ^system s; }",
		"port a { rule r { ^port b { }",
		"port a { rule r { class x; ^lower 1; }",
		"port a { rule r { } ^low 1; }",
	)
	// What only other versions have.
	wantEach(t, api.ErrName, 1, 2, "^wait 5;", "^wait 0;", "^wait", "system s; ^wait 5;", "port a { class x { ^depth 8; }", "port a { class x { burst 1500; ^depth 8; }")
	wantEach(t, api.ErrName, 1, 1, "port a { ^kind lab; }", "port a { ^kind", "port a { class x { ^shaped true; }", "port a { class x { ^shaped")
	wantEach(t, api.ErrName, 3, 3, "port a { class x { ^limit 8; }", "port a { class x { ^limit 0; }", "port a { class x { depth 8; ^limit 8; }")
}

// TestLeavesTwice has the name of a leaf that the node has already.
func TestLeavesTwice(t *testing.T) { // P12.1
	leaves := func(first int, ahead, part string, others ...string) {
		name, _, _ := strings.Cut(part, " ")
		for _, between := range append(others, "") {
			wantEach(t, api.ErrTwice, first, 3,
				ahead+part+between+" ^"+part,
				ahead+between+part+" ^"+part,
				ahead+part+between+" ^"+part+" "+part,
				// Whatever is behind it.
				ahead+part+between+"^"+name,
				ahead+part+between+" ^"+name+";",
				ahead+part+between+" ^"+name+"{ }",
				ahead+part+between+" ^"+name+"}",
				ahead+part+between+" ^"+name+" -;",
				ahead+part+between+" ^"+name+" \"\";",
			)
		}
	}
	leaves(1, "", "system s;", "port a { }", "port a { class x { } } port b { }")
	leaves(3, "", "wait 5;", "system s;", "port a { }")
	leaves(1, "port a {", "up true;", "default x;", "class x { }", "rule r { class y; }")
	leaves(1, "port a {", "default x;", "up false;", "class x { burst 1500; } rule r { }")
	leaves(2, "port a {", "kind lab;", "default x;", "class x { }")
	leaves(1, "port a { class x {", "quantum 1500;", "burst 1500;", "rate 0; burst 1500;")
	leaves(1, "port a { class x {", "rate 1k;", "burst 1500;")
	leaves(1, "port a { class x {", "burst 1500;", "rate 0;")
	leaves(2, "port a { class x {", "shaped true;", "rate 0;")
	leaves(1, "port a { rule r {", "low 1;", "high 1;")
	leaves(1, "port a { rule r {", "high 1;", "low 1; class x;")
	leaves(1, "port a { rule r {", "class x;", "low 1;")
	wantEach(t, api.ErrTwice, 1, 3, "system s; ^system t;", "port a { default x; ^default y; }", "port a { rule r { low 1; ^low 2; } }", "port b { } port a { class x { rate 0; ^rate 1; } }")
	wantEach(t, api.ErrTwice, 1, 2, "port a { class x { limit 8; ^limit 9; }")
	wantEach(t, api.ErrTwice, 3, 3, "port a { class x { depth 8; ^depth 8; }")
}

// TestKeysTwice has keys that an item of the same list has already.
func TestKeysTwice(t *testing.T) { // P12.1
	for _, x := range [][2]string{
		{"", "port"},
		{"port b { } ", "port"},
		{"system s; ", "port"},
		{"port p {", "class"},
		{"port p { class k2 { } rule k { } ", "class"},
		{"port k { class k { } } port p { ", "class"},
		{"port p {", "rule"},
		{"port p { rule k2 { } class k { } ", "rule"},
		{"port k { rule k { } } port p { default x; ", "rule"},
	} {
		ahead, list := x[0], x[1]
		for _, first := range []string{"k", `"k"`, `"\x6b"`} {
			for _, between := range []string{"", list + " k-2 { } ", list + " k1 { } " + list + " j { } "} {
				had := ahead + list + " " + first + " { } " + between + list
				wantEach(t, api.ErrTwice, 1, 3,
					had+" ^k { }",
					had+" ^\"k\" { }",
					had+"^\"\\x6b\"",
					// Whatever is behind it.
					had+" ^k",
					had+" ^k;",
					had+" ^k }",
					had+" ^k x { }",
					had+" ^k { x y; }",
				)
			}
		}
	}
	wantEach(t, api.ErrTwice, 1, 3,
		"port a { } port b { } port c { } port d { } port e { } port ^c { }",
		"port a { class x { } class y { } class z { } default x; class ^y { } }",
		"port a { rule r { low 1; high 2; } rule ^r { low 1; high 2; } }",
	)
}

// TestSameKeys has a key in several lists, which is no fault, and names that begin alike.
func TestSameKeys(t *testing.T) { // P12.1, P12.2
	versions(func(version int) {
		port := func(key string) api.Node {
			return box("port["+key+"]", class(version, "a"), class(version, "a-"), class(version, "aa"), class(version, "b"), ref("default", "a"), rule("a", "a"), rule("a-", "b"), rule("aa", "a"), rule("b", "a"))
		}
		n := box("", port("a"), port("a-"), port("aa"), port("b"), ident("system", "a"))
		wantTree(t, printer.Text(version, n), version, n)
	})
	// A rule may have the name of a list as that of a leaf.
	wantTree(t, "version 1; port a { default x; rule x { class x; low 1; high 2; } class x { rate 0; limit 1; quantum 1500; burst 1500; } }", 1,
		box("", box("port[a]", box("class[x]", num("burst", 1500), num("limit", 1), num("quantum", 1500), rate("rate", 0)), ref("default", "x"), box("rule[x]", ref("class", "x"), num("high", 2), num("low", 1)))))
}

func TestValues(t *testing.T) { // P12.1
	bad := func(first, last int, ahead string, values ...string) {
		for _, v := range values {
			if lex.Plain(v) {
				wantEach(t, api.ErrValue, first, last, ahead+" ^"+v+";", ahead+" ^"+v, ahead+" ^"+v+" x;", ahead+" ^"+v+"}", ahead+" ^"+v+" {", ahead+" ^"+v+"; x")
			}
			v = lex.Quote(v)
			wantEach(t, api.ErrValue, first, last, ahead+" ^"+v+";", ahead+"^"+v, ahead+" ^"+v+" \"x\";")
		}
	}
	number := []string{"", " ", "x", "-", ".", "-1", "+1", "00", "01", "0x1", "1.0", "1e3", "1 ", " 1", "1,0", "1\n", "true", "18446744073709551616", "18446744073709553116", "99999999999999999999", "é"}
	name := []string{"", " ", "S", "s s", "1", "1s", "-", "-s", "s_", "s.", "sS", "aaaaaaaaaaaaa", "s\n", "s\x00", "é", "s;", "{", "\xff"}
	truth := []string{"", "0", "1", "yes", "no", "True", "FALSE", "tru", "truee", "true ", " false", "t", "f", "on"}
	bad(1, 3, "system", name...)
	bad(1, 3, "port a { default", name...)
	bad(1, 3, "port a { rule r { class", name...)
	bad(1, 3, "port a { up", truth...)
	bad(2, 3, "port a { class x { shaped", truth...)
	bad(2, 3, "port a { kind", "", "none", "Edge", "edg", "edges", "edge ", "core lab", "0", "1", "2", "true", "-")
	bad(1, 3, "port a { class x { quantum", append(number, "0", "1", "1499", "100001", "2k", "1500k", "1m", "18446744073709551615")...)
	bad(1, 3, "port a { class x { burst", append(number, "0", "1", "1499", "1000001", "2k", "1m", "4294968796")...)
	bad(1, 3, "port a { class x { rate", append(number, "1000001", "1001k", "2m", "k", "m", "1K", "1M", "1kk", "1km", "1g", "01k", "1 k", "18446744073709551615", "18446744073709552k")...)
	bad(1, 2, "port a { class x { limit", append(number, "0", "65", "257", "1k", "4294967297")...)
	bad(3, 3, "port a { class x { depth", append(number, "0", "65", "257", "1k", "4294967297")...)
	bad(1, 3, "port a { rule r { low", append(number, "65536", "1k", "4294967296")...)
	bad(1, 3, "port a { rule r { high", append(number, "65536", "1k", "4294967296")...)
	bad(3, 3, "wait", append(number, "0", "1001", "1k", "65537")...)
}

func TestKeys(t *testing.T) { // P12.1
	for _, ahead := range []string{"port", "port b { } port", "port a { class", "port a { class x { } class", "port a { rule", "port a { rule r { } rule"} {
		list := ahead[strings.LastIndex(ahead, " ")+1:]
		for _, key := range []string{"", " ", "A", "aA", "a b", "1", "1a", "0", "-", "-a", "a_b", "a.b", ".", "_", "aaaaaaaaaaaaa", "abcdefghijklm", "a\n", "\n", "a\x00", "é", "aé", "\xff", "a;", "{", "}", "\"", "true!"} {
			var texts []string
			if lex.Plain(key) {
				texts = append(texts, key)
			}
			for _, text := range append(texts, lex.Quote(key)) {
				wantEach(t, api.ErrValue, 1, 3,
					ahead+" ^"+text+" { }",
					ahead+" ^"+text,
					ahead+" ^"+text+";",
					ahead+" ^"+text+" }",
					ahead+" ^"+text+" x { }",
					ahead+" ^"+text+" { x y; }",
					ahead+" ^"+text+" { } "+list+" "+text+" { }",
				)
			}
		}
	}
}

// TestFirst has several things that are wrong, of which the first one counts.
func TestFirst(t *testing.T) { // P12.1
	wantAll(t, api.ErrSyntax,
		"^x 9; y z;",
		"^system S; version 9;",
		"version ^; x;",
		"version ^\"9\"",
		"version 1 ^x;",
		"version 1 ^}",
		"version 1; ^; x y;",
		"version 1; system ^; system S;",
		"version 1; system s ^x y;",
		"version 1; port ^{ x y; }",
		"version 1; port a ^; x y;",
		"version 1; port a { ^\"x\" y; }",
		"version 1; port a { up true; ^; up true; }",
		"version 2; port a { } port b ^; port a { }",
	)
	wantAll(t, api.Version, "version ^9", "version ^9 x", "version ^0; }", "version ^01 ;;", "version ^4; wait 5;")
	wantAll(t, api.ErrName, "version 1; ^x", "version 1; ^x }", "version 1; ^x y; system S; system t;", "version 1; port a { ^x } }", "version 1; system s; ^System s; system s;", "version 1; port a { ^y z; } port a { }")
	wantAll(t, api.ErrTwice, "version 1; system s; ^system S", "version 1; system s; ^system }", "version 1; port a { } port ^a x y;", "version 1; system s; ^system s; x y;", "version 1; port a { up true; ^up no; } port a { }")
	wantAll(t, api.ErrValue, "version 1; system ^S x;", "version 1; system ^S; system s;", "version 1; port ^A;", "version 1; port ^A { } port A { }", "version 1; port a { up ^no up true; }", "version 1; port ^\"\" { x y; }", "version 1; port a { default ^9; x y;")
	// What is wrong with the tree as a whole comes behind all that.
	wantAll(t, api.ErrSyntax, "version 1; port a { } ^}", "version 1; port a { default x; } ^;", "version 1; port a { } port b { } port c { } port d { } port e { } ^{")
	wantAll(t, api.ErrName, "version 1; port a { } ^x y;", "version 1; port a { class x { } default z; ^x y; }")
	wantAll(t, api.ErrTwice, "version 1; port a { } port ^a { }", "version 2; port a { default x; } system s; ^system t;")
	wantAll(t, api.ErrValue, "version 1; port a { } system ^S;", "version 3; port a { } wait ^0;", "version 3; port a { default x; } port ^B { }")
}

// TestPositions has lines and columns, counted in characters, some of which have several bytes or none that is valid.
func TestPositions(t *testing.T) { // P12.1
	wantErr(t, "", api.ErrSyntax, api.Pos{Line: 1, Col: 1})
	wantErr(t, "version 1", api.ErrSyntax, api.Pos{Line: 1, Col: 10})
	wantErr(t, "version 1\n", api.ErrSyntax, api.Pos{Line: 2, Col: 1})
	wantErr(t, "version\n4;", api.Version, api.Pos{Line: 2, Col: 1})
	wantErr(t, "version 1;\nsystem s;\nport a {\n  up true;\n  x y;\n}\n", api.ErrName, api.Pos{Line: 5, Col: 3})
	wantErr(t, "version 1;\r\n\tsystem s;\r\n\tport a }", api.ErrSyntax, api.Pos{Line: 3, Col: 9})
	wantErr(t, "# \xff\xff\nversion 1; # é\n\n \"systém\"", api.ErrSyntax, api.Pos{Line: 4, Col: 2})
	wantErr(t, "version 1; system \"éé\";", api.ErrValue, api.Pos{Line: 1, Col: 19})
	wantErr(t, "version 1; system \"s\"\n\"éé\" x;", api.ErrSyntax, api.Pos{Line: 2, Col: 1})
	wantErr(t, "version 1; port \"\\x61\" { } port\n\n\n   \"\\x61\" { }", api.ErrTwice, api.Pos{Line: 4, Col: 4})
	wantErr(t, "version 1; port é", api.ErrLex, api.Pos{Line: 1, Col: 17})
	wantErr(t, "version 1; port a { }", api.ErrLack, api.Pos{})
}

// TestWordsAndStrings has keys and values as both, and in the ways in which strings can be written.
func TestWordsAndStrings(t *testing.T) { // P12.1, P12.2
	wantTree(t, `version 3;
system "s-1";
wait "10\x30";
port "\x61" {
	class "x" { burst "3000"; depth "8"; quantum "1\x3500"; rate "1k"; shaped "true"; }
	default "x";
	kind "cor\x65";
	rule "r" { class "x"; high "19"; low "0"; }
	up "false";
}`, 3, box("",
		box("port[a]", box("class[x]", num("burst", 3000), num("depth", 8), num("quantum", 1500), rate("rate", 1000), flag("shaped", 1)), ref("default", "x"), enum("kind", "core"), box("rule[r]", ref("class", "x"), num("high", 19), num("low", 0)), flag("up", 0)),
		ident("system", "s-1"), num("wait", 100)))
	versions(func(version int) {
		l := tokens(t, printer.Text(version, full(version)))
		for i := 1; i < len(l); i++ {
			// A value or a key stands behind a name, and ahead of a sign.
			if lex.Plain(l[i-1]) && lex.Plain(l[i]) && i > 1 {
				s := slices.Clone(l)
				s[i] = lex.Quote(s[i])
				wantTree(t, strings.Join(s, " "), version, full(version))
				s[i-1] = mark + lex.Quote(s[i-1])
				wantAt(t, api.ErrSyntax, strings.Join(s, " "))
			}
		}
	})
}

// Names may be values and keys, the names of the leaves and lists themselves too.
func TestNamesAsValues(t *testing.T) { // P12.1, P12.2
	for _, name := range []string{"version", "system", "port", "class", "rule", "default", "up", "kind", "true", "k", "end"} {
		n := box("", box("port["+name+"]", class(2, name), ref("default", name), rule(name, name)), ident("system", name))
		wantTree(t, printer.Text(2, n), 2, n)
		wantTree(t, "version 2; system "+name+";", 2, box("", ident("system", name)))
	}
}

// TestNumbers has the values that a leaf may have at its edges, and rates as several texts.
func TestNumbers(t *testing.T) { // P12.1, P12.2
	for _, x := range []struct {
		name, value string
		want        api.Node
	}{
		{"quantum", "1500", num("quantum", 1500)},
		{"quantum", "100000", num("quantum", 100000)},
		{"burst", "1500", num("burst", 1500)},
		{"burst", "1000000", num("burst", 1000000)},
		{"rate", "0", rate("rate", 0)},
		{"rate", "0k", rate("rate", 0)},
		{"rate", "0m", rate("rate", 0)},
		{"rate", "1", rate("rate", 1)},
		{"rate", "2000", rate("rate", 2000)},
		{"rate", "2k", rate("rate", 2000)},
		{"rate", "1000k", rate("rate", 1000000)},
		{"rate", "1m", rate("rate", 1000000)},
		{"rate", "1000000", rate("rate", 1000000)},
		{"depth", "1", num("depth", 1)},
		{"depth", "64", num("depth", 64)},
		{"shaped", "false", flag("shaped", 0)},
		{"shaped", "true", flag("shaped", 1)},
	} {
		n := full(3)
		kids := n.Kids[1].Kids[0].Kids
		i := slices.IndexFunc(kids, func(kid api.Node) bool { return kid.Name == x.name })
		lines := strings.SplitAfter(printer.Text(3, n), "\n")
		line := slices.IndexFunc(lines, func(s string) bool { return strings.HasPrefix(s, "port b") }) + 2 + i
		if !strings.HasPrefix(lines[line], "    "+x.name+" ") {
			t.Fatalf("line %d is %q", line, lines[line])
		}
		lines[line] = "    " + x.name + " " + x.value + ";\n"
		kids[i] = x.want
		wantTree(t, strings.Join(lines, ""), 3, n)
	}
	wantTree(t, "version 3; wait 1;", 3, box("", num("wait", 1)))
	wantTree(t, "version 3; wait 1000;", 3, box("", num("wait", 1000)))
	wantTree(t, "version 2; system abcdefghij-9;", 2, box("", ident("system", "abcdefghij-9")))
	for _, flow := range []string{"0", "1", "65535"} {
		x, _ := strconv.ParseUint(flow, 10, 64)
		wantTree(t, "version 1; port a { class x { rate 0; limit 1; quantum 1500; burst 1500; } rule r { class x; low "+flow+"; high "+flow+"; } default x; }", 1,
			box("", box("port[a]", box("class[x]", num("burst", 1500), num("limit", 1), num("quantum", 1500), rate("rate", 0)), ref("default", "x"), box("rule[r]", ref("class", "x"), num("high", x), num("low", x)))))
	}
}

// tokens is the tokens of a text without faults, each as it may be written.
func tokens(t *testing.T, s string) []string {
	t.Helper()
	l, err, at := lex.All(s)
	if err != api.OK {
		t.Fatalf("%d at %v in %s", err, at, clipped(s))
	}
	var out []string
	for _, token := range l[:len(l)-1] {
		switch token.Kind {
		case lex.Word:
			out = append(out, token.Text)
		case lex.String:
			out = append(out, lex.Quote(token.Text))
		default:
			out = append(out, map[int]string{lex.Open: "{", lex.Close: "}", lex.Semi: ";"}[token.Kind])
		}
	}
	return out
}

// TestLayout has blanks, newlines and notes between tokens, and as little between them as may be.
func TestLayout(t *testing.T) { // P12.1, P12.2, P12.3
	versions(func(version int) {
		l := tokens(t, printer.Text(version, full(version)))
		for _, between := range []string{" ", "  ", "\t", "\n", "\r\n", " \t\r\n ", "#\n", " # a note; { } \" @ \xff\n", "\n#\n#\n\n", "# é\n\t"} {
			s := strings.Join(l, between)
			wantTree(t, s, version, full(version))
			wantTree(t, between+s+between, version, full(version))
			wantTree(t, s+" # the end", version, full(version))
		}
		var tight strings.Builder
		for i, token := range l {
			if i > 0 && lex.Plain(l[i-1]) && lex.Plain(token) {
				tight.WriteByte(' ')
			}
			tight.WriteString(token)
		}
		if s := tight.String(); strings.Contains(s, "\n") || strings.Contains(s, "; ") {
			t.Errorf("%s is not on one line", s)
		}
		wantTree(t, tight.String(), version, full(version))
		// A note takes away what it has up to the end of its line.
		s := printer.Text(version, full(version))
		wantTree(t, strings.Replace(s, "system s;", "#system s;\nsystem t;", 1), version, changed(version, func(n *api.Node) {
			i := slices.IndexFunc(n.Kids, func(kid api.Node) bool { return kid.Name == "system" })
			n.Kids[i].Val.Text = "t"
		}))
	})
	wantTree(t, "version 1;system s;", 1, box("", ident("system", "s")))
	wantTree(t, "version 1;system\"s\";", 1, box("", ident("system", "s")))
	wantTree(t, "version#2\n1#3\n;system#t\ns#u\n;#system v;", 1, box("", ident("system", "s")))
}

// changed is full after a change.
func changed(version int, call func(n *api.Node)) api.Node {
	n := full(version)
	call(&n)
	return n
}

// text is a tree as text, its kids in the order in which they stand.
func text(s spec.Spec, n api.Node) string {
	var b strings.Builder
	for _, kid := range n.Kids {
		s := s.Kids[spec.Find(s, kid.Name)]
		if kid.Val.Kind != api.None {
			b.WriteString(kid.Name + " " + value.Text(s, kid.Val) + ";\n")
		} else {
			b.WriteString(kid.Name + " " + kid.Key + " {\n" + text(s, kid) + "}\n")
		}
	}
	return b.String()
}

// textOf is a tree of a version as text, its kids in the order in which they stand.
func textOf(version int, n api.Node) string {
	root, _ := spec.Root(version)
	return opening(version) + "\n" + text(root, n)
}

// shuffled is a tree, whose kids stand in another order at each depth.
func shuffled(r *rand.Rand, n api.Node) api.Node {
	n.Kids = slices.Clone(n.Kids)
	for i, kid := range n.Kids {
		n.Kids[i] = shuffled(r, kid)
	}
	r.Shuffle(len(n.Kids), func(i, j int) { n.Kids[i], n.Kids[j] = n.Kids[j], n.Kids[i] })
	return n
}

// reversed is a tree, whose kids stand the other way round at each depth.
func reversed(n api.Node) api.Node {
	n.Kids = slices.Clone(n.Kids)
	slices.Reverse(n.Kids)
	for i, kid := range n.Kids {
		n.Kids[i] = reversed(kid)
	}
	return n
}

func TestOrder(t *testing.T) { // P12.2, P12.3
	wantTree(t, "version 3; wait 5; system s;", 3, box("", ident("system", "s"), num("wait", 5)))
	wantTree(t, `version 1;
system s;
port b { class x { burst 3000; limit 8; quantum 1500; rate 1k; } default x; }
port a {
	up true;
	rule s { low 10; high 19; class be; }
	rule r { high 19; class gold; low 10; }
	default be;
	class idle { rate 1k; quantum 1500; limit 8; burst 3000; }
	class be { quantum 1500; rate 1k; burst 3000; limit 8; }
	class gold { limit 8; rate 1k; burst 3000; quantum 1500; }
}`, 1, full(1))
	r := rand.New(rand.NewSource(1))
	versions(func(version int) {
		wantTree(t, textOf(version, full(version)), version, full(version))
		wantTree(t, textOf(version, reversed(full(version))), version, full(version))
		for range 50 {
			wantTree(t, textOf(version, shuffled(r, full(version))), version, full(version))
		}
		// The order is that of bytes, and not that of the schema: - is ahead of digits, and those of letters.
		n := box("", box("port[a]", ref("default", "a")))
		for _, key := range []string{"a", "a-", "a--1", "a1", "a10", "a2", "aa", "b"} {
			n.Kids[0].Kids = append(n.Kids[0].Kids, class(version, key), rule(key, key))
		}
		n = tree.Sorted(n)
		wantTree(t, textOf(version, reversed(n)), version, n)
	})
}

// TestWhole has trees in which all parts may be, but which may not be as a whole.
func TestWhole(t *testing.T) { // P12.2
	whole := func(err api.Errno, texts ...string) {
		t.Helper()
		for _, s := range texts {
			wantErr(t, s, err, api.Pos{})
			wantErr(t, "# é\n\n"+s, err, api.Pos{})
		}
	}
	versions(func(version int) {
		begin := opening(version)
		x := "class x {" + text(at(t, version, "port", "class"), class(version, "x")) + "}"
		whole(api.ErrLack,
			begin+"port a { }",
			begin+"system s; port a { }",
			begin+"port a { "+x+" }",
			begin+"port a { default x; class x { } }",
			begin+"port a { default x; "+x+" rule r { } }",
			begin+"port a { default x; "+x+" } port b { }",
			begin+"port b { } port a { default x; "+x+" }",
		)
		whole(api.ErrRef,
			begin+"port a { default x; }",
			begin+"port a { default y; "+x+" }",
			begin+"port a { default x; "+x+" rule r { low 1; high 2; class y; } }",
			begin+"port a { default x; "+x+" rule x { low 1; high 2; class a; } }",
			begin+"port a { default x; "+x+" } port b { default x; }",
			begin+"port b { default x; } port a { default x; "+x+" }",
		)
		for _, leaf := range class(version, "x").Kids {
			n := changed(version, func(n *api.Node) {
				port := &n.Kids[1]
				i := slices.IndexFunc(port.Kids[0].Kids, func(kid api.Node) bool { return kid.Name == leaf.Name })
				port.Kids[0].Kids = slices.Delete(port.Kids[0].Kids, i, i+1)
			})
			whole(api.ErrLack, textOf(version, n), textOf(version, reversed(n)))
		}
		for i := range 3 {
			n := changed(version, func(n *api.Node) {
				rule := &n.Kids[0].Kids[slices.IndexFunc(n.Kids[0].Kids, func(kid api.Node) bool { return kid.Name == "rule" })]
				rule.Kids = slices.Delete(rule.Kids, i, i+1)
			})
			whole(api.ErrLack, textOf(version, n), textOf(version, reversed(n)))
		}
		for _, list := range []struct {
			at   []string
			most int
			item api.Node
		}{
			{nil, api.MaxPorts, box("port[more]", class(version, "x"), ref("default", "x"))},
			{[]string{"port"}, api.MaxClasses, class(version, "more")},
			{[]string{"port"}, api.MaxRules, rule("more", "c0")},
		} {
			n := crowd(version, "")
			wantTree(t, textOf(version, reversed(n)), version, n)
			in := &n
			if list.at != nil {
				in = &n.Kids[2]
			}
			in.Kids = append(in.Kids, list.item)
			whole(api.ErrMany, textOf(version, n), textOf(version, reversed(n)))
			// An item more than most is one too many, whatever else is wrong, but for what stands ahead in the tree's order.
			in.Kids[len(in.Kids)-1] = box(list.item.Name + "[zz]")
			whole(api.ErrMany, textOf(version, n))
			in.Kids[len(in.Kids)-1] = box(list.item.Name + "[aa]")
			whole(api.ErrLack, textOf(version, n))
		}
	})
	// The first one of the tree counts, not of the text.
	whole(api.ErrLack, "version 1; port b { default x; } port a { }", "version 1; port a { } port b { default x; }", "version 1; port a { default x; } port b { }")
}

// at is what a version says of the names.
func at(t *testing.T, version int, names ...string) spec.Spec {
	t.Helper()
	s, err := spec.At(version, names)
	if err != api.OK {
		t.Fatalf("version %d: no %v", version, names)
	}
	return s
}

// name is one that may be.
func name(r *rand.Rand) string {
	s := string(rune('a' + r.Intn(26)))
	for range r.Intn(12) {
		s += string("abz019-"[r.Intn(7)])
	}
	return s
}

// names is up to most of them, no two the same.
func names(r *rand.Rand, most int) []string {
	var l []string
	for range r.Intn(most + 1) {
		if s := name(r); !slices.Contains(l, s) {
			l = append(l, s)
		}
	}
	return l
}

func within(r *rand.Rand, least, most int) uint64 { return uint64(least + r.Intn(most-least+1)) }

// some is any valid tree of a version.
func some(r *rand.Rand, version int) api.Node {
	var n api.Node
	if r.Intn(2) == 0 {
		n.Kids = append(n.Kids, ident("system", name(r)))
	}
	if version == 3 && r.Intn(2) == 0 {
		n.Kids = append(n.Kids, num("wait", within(r, 1, 1000)))
	}
	for _, key := range names(r, api.MaxPorts) {
		n.Kids = append(n.Kids, somePort(r, version, key))
	}
	return tree.Sorted(n)
}

func somePort(r *rand.Rand, version int, key string) api.Node {
	classes := append(names(r, api.MaxClasses-1), "be")
	n := box("port["+key+"]", ref("default", classes[r.Intn(len(classes))]))
	for _, key := range classes {
		c := box("class["+key+"]", num("quantum", within(r, 1500, 100000)), rate("rate", within(r, 0, 1000)*[]uint64{1, 1000}[r.Intn(2)]), num("burst", within(r, 1500, 1000000)), num(limit(version), within(r, 1, 64)))
		if version > 1 {
			c.Kids = append(c.Kids, flag("shaped", within(r, 0, 1)))
		}
		n.Kids = append(n.Kids, c)
	}
	for _, key := range names(r, api.MaxRules) {
		n.Kids = append(n.Kids, box("rule["+key+"]", num("low", within(r, 0, 65535)), num("high", within(r, 0, 65535)), ref("class", classes[r.Intn(len(classes))])))
	}
	if r.Intn(2) == 0 {
		n.Kids = append(n.Kids, flag("up", within(r, 0, 1)))
	}
	if version > 1 && r.Intn(2) == 0 {
		n.Kids = append(n.Kids, enum("kind", []string{"edge", "core", "lab"}[r.Intn(3)]))
	}
	return n
}

func TestPrinted(t *testing.T) { // P12.3
	versions(func(version int) {
		for _, n := range []api.Node{{}, full(version), crowd(version, "")} {
			wantTree(t, printer.Text(version, n), version, n)
		}
	})
	r := rand.New(rand.NewSource(2))
	long := 0
	for range 600 {
		version := 1 + r.Intn(3)
		n := some(r, version)
		s := printer.Text(version, n)
		if len(s) > api.MaxBytes {
			long++
			wantErr(t, s, api.ErrBig, api.Pos{})
		} else {
			wantTree(t, s, version, n)
		}
		if s := textOf(version, shuffled(r, n)); len(s) <= api.MaxBytes {
			wantTree(t, s, version, n)
		}
	}
	if long > 300 {
		t.Errorf("%d of 600 texts are too long", long)
	}
}

// between is something that may stand between two tokens.
func between(r *rand.Rand) string {
	return []string{" ", " ", " ", "  ", "\n", "\t", "\r\n", " # x\n", "#é;\n "}[r.Intn(9)]
}

// spread is tokens with something between each two of them.
func spread(r *rand.Rand, l []string) string {
	var b strings.Builder
	for _, token := range l {
		b.WriteString(token + between(r))
	}
	return b.String()
}

// pool is tokens that are laid where others were.
var pool = []string{
	"{", "}", ";", "\"\"", "\"x\"", "\"version\"", "\"a b\"", "version", "system", "port", "class", "rule", "default", "up", "kind", "wait", "limit", "depth", "quantum", "rate", "burst", "shaped", "low", "high",
	"a", "b", "be", "gold", "x", "X", "true", "false", "edge", "0", "1", "2", "3", "4", "8", "1500", "3000", "1k", "1m", "2m", "01", "-",
}

// wrung is tokens after a change to one or some of them.
func wrung(r *rand.Rand, l []string) []string {
	l = slices.Clone(l)
	i, j := r.Intn(len(l)), r.Intn(len(l))
	switch r.Intn(10) {
	case 7, 8, 9:
		return wrungLeaf(r, l)
	case 0:
		return slices.Delete(l, i, i+1)
	case 1:
		return slices.Insert(l, i, pool[r.Intn(len(pool))])
	case 2:
		l[i] = pool[r.Intn(len(pool))]
	case 3:
		l[i], l[j] = l[j], l[i]
	case 4:
		return l[:i]
	case 5:
		return slices.Insert(l, i, l[min(i, j):min(max(i, j), min(i, j)+12)]...)
	case 6:
		return slices.Delete(l, min(i, j), max(i, j))
	}
	return l
}

// wrungLeaf is tokens without one of the leaves, or with another value in it.
func wrungLeaf(r *rand.Rand, l []string) []string {
	var leaves []int
	for i := 3; i+2 < len(l); i++ {
		if l[i+2] == ";" {
			leaves = append(leaves, i)
		}
	}
	if len(leaves) == 0 {
		return l
	}
	i := leaves[r.Intn(len(leaves))]
	if r.Intn(2) == 0 {
		return slices.Delete(l, i, i+3)
	}
	l[i+1] = []string{"a", "x", "1500", "1600", "1", "0", "20", "true", "lab"}[r.Intn(9)]
	return l
}

// TestWrung holds what is answered of texts with faults in them against what the model answers.
func TestWrung(t *testing.T) { // P12.1, P12.2
	r := rand.New(rand.NewSource(3))
	got := map[api.Errno]int{}
	for range 4000 {
		version := 1 + r.Intn(3)
		n := small(version)
		if r.Intn(3) == 0 {
			n = some(r, version)
		}
		l := tokens(t, textOf(version, shuffled(r, n)))
		for range 1 + r.Intn(3) {
			if len(l) > 0 {
				l = wrung(r, l)
			}
		}
		got[wantModel(t, spread(r, l))]++
		if t.Failed() {
			return
		}
	}
	for _, err := range []api.Errno{api.OK, api.ErrSyntax, api.ErrName, api.ErrValue, api.ErrTwice, api.ErrLack, api.ErrRef, api.Version} {
		if got[err] < 20 {
			t.Errorf("%d texts are answered by %d: %v", got[err], err, got)
		}
	}
}

// small is a valid tree with just one of each thing that a version has.
func small(version int) api.Node {
	n := full(version)
	port := &n.Kids[0]
	port.Kids = slices.DeleteFunc(port.Kids, func(kid api.Node) bool { return kid.Key == "gold" || kid.Key == "idle" || kid.Key == "r" })
	n.Kids = slices.DeleteFunc(n.Kids, func(kid api.Node) bool { return kid.Key == "b" })
	return n
}

// TestEachToken has each token of a text gone, there twice, another one, or the last one.
func TestEachToken(t *testing.T) { // P12.1, P12.2
	versions(func(version int) {
		l := tokens(t, textOf(version, reversed(small(version))))
		for i := range l {
			wantModel(t, strings.Join(l[:i], " "))
			wantModel(t, strings.Join(slices.Delete(slices.Clone(l), i, i+1), " "))
			wantModel(t, strings.Join(slices.Insert(slices.Clone(l), i, l[i]), "\n"))
			for _, other := range pool {
				s := slices.Clone(l)
				s[i] = other
				wantModel(t, strings.Join(s, " "))
				wantModel(t, strings.Join(slices.Insert(s, i+1, l[i]), "\n"))
			}
		}
	})
}

// TestAnything has texts of which most are none: Parse answers, and as the model does.
func TestAnything(t *testing.T) { // P12.1
	r := rand.New(rand.NewSource(4))
	for range 20000 {
		var l []string
		if r.Intn(4) > 0 {
			l = []string{"version", strconv.Itoa(r.Intn(5)), ";"}
		}
		for range r.Intn(12) {
			l = append(l, pool[r.Intn(len(pool))])
		}
		wantModel(t, spread(r, l))
	}
	base := printer.Text(3, small(3))
	for range 5000 {
		b := []byte(base)
		for range 1 + r.Intn(4) {
			b[r.Intn(len(b))] = byte(r.Intn(256))
		}
		wantModel(t, string(b))
		for i := range b[:r.Intn(40)] {
			b[i] = byte(r.Intn(256))
		}
		wantModel(t, string(b[:r.Intn(len(b))]))
	}
	for b := range 256 {
		wantModel(t, string([]byte{byte(b)}))
		wantModel(t, "version 1; "+string([]byte{byte(b)}))
		wantModel(t, "version "+string([]byte{byte(b)})+";")
		wantModel(t, "version 2; port a {"+string([]byte{byte(b)})+"}")
	}
}

// TestMany has texts with as many parts as there is room for.
func TestMany(t *testing.T) { // P12.1, P12.2
	room := api.MaxBytes - len("version 1;")
	items := func(count int, list string) string {
		var b strings.Builder
		for i := range count {
			b.WriteString(list + " a" + strconv.Itoa(i) + "{}")
		}
		return b.String()
	}
	wantErr(t, "version 1;"+items(700, "port"), api.ErrLack, api.Pos{})
	wantErr(t, "version 1;port a{"+items(600, "rule")+"}", api.ErrLack, api.Pos{})
	wantAt(t, api.ErrTwice, "version 1;"+items(700, "port")+"port ^a0{}")
	wantAt(t, api.ErrTwice, "version 1;"+items(700, "port")+"port ^a699{}")
	wantAt(t, api.ErrSyntax, "version 1;^"+strings.Repeat("{", room))
	wantAt(t, api.ErrSyntax, "version 1;^"+strings.Repeat("}", room))
	wantAt(t, api.ErrSyntax, "version 1;^"+strings.Repeat(";", room))
	wantAt(t, api.ErrSyntax, "version 1;port a{^"+strings.Repeat("{", room-len("port a{")))
	wantAt(t, api.ErrName, "version 1;port a{^"+strings.Repeat("port a{", 1000))
	wantAt(t, api.ErrName, "version 1;^"+strings.Repeat("a ", room/2))
}

// TestArgument holds that a text is as it was, also where it is a part of a longer one.
func TestArgument(t *testing.T) { // P12.1
	versions(func(version int) {
		inner := printer.Text(version, full(version))
		for _, s := range []string{inner, inner + "}", inner[:len(inner)-2], "version 1; port \"\\x61\" { }", "x"} {
			whole := "ahead" + s + "} behind; @"
			was := strings.Clone(whole)
			wantModel(t, whole[len("ahead"):len("ahead")+len(s)])
			if whole != was {
				t.Errorf("%q was changed to %q", was, whole)
			}
		}
	})
}

// TestNewMemory holds that what is answered shares nothing, and that no answer hangs on what was asked ahead.
func TestNewMemory(t *testing.T) { // P12.1, P12.2
	versions(func(version int) {
		s := printer.Text(version, full(version))
		_, first, _, _ := parser.Parse(s)
		_, second, _, _ := parser.Parse(s)
		seen := map[*api.Node]bool{}
		for _, n := range []api.Node{first, second} {
			each(n, func(kid *api.Node) {
				if seen[kid] {
					t.Errorf("version %d: a node is there twice", version)
				}
				seen[kid] = true
			})
		}
		each(first, func(kid *api.Node) { *kid = num("spoilt", 9) })
		if !tree.Same(second, full(version)) {
			t.Errorf("version %d: a change to one answer is seen in another one", version)
		}
		wantErr(t, s+"}", api.ErrSyntax, api.Pos{Line: strings.Count(s, "\n") + 1, Col: 1})
		wantErr(t, "version 1; port a { }", api.ErrLack, api.Pos{})
		wantErr(t, "\"", api.ErrLex, api.Pos{Line: 1, Col: 2})
		for range 3 {
			wantTree(t, s, version, full(version))
		}
	})
}

// each calls with each node below one, the innermost first, and with those in the room behind lists.
func each(n api.Node, call func(*api.Node)) {
	for i, kids := 0, n.Kids[:cap(n.Kids)]; i < len(kids); i++ {
		each(kids[i], call)
		call(&kids[i])
	}
}
