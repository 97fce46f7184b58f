package migrate_test

import (
	"math/rand"
	"slices"
	"strconv"
	"testing"

	"tollbar/api"
	"tollbar/migrate"
	"tollbar/tree"
	"tollbar/valid"
)

// pairs calls for each two versions.
func pairs(call func(version, to int)) {
	for version := 1; version <= 3; version++ {
		for to := 1; to <= 3; to++ {
			call(version, to)
		}
	}
}

// many is the tree that all versions have.
func many(version int) api.Node {
	switch version {
	case 1:
		return many1()
	case 2:
		return many2()
	}
	return many3()
}

// TestToAll: from each version to each one.
func TestToAll(t *testing.T) { // P19.3
	pairs(func(version, to int) {
		wantTo(t, version, to, api.Node{}, api.Node{})
		wantTo(t, version, to, api.Node{Kids: []api.Node{}}, api.Node{})
		wantTo(t, version, to, box("", ident("system", "a")), box("", ident("system", "a")))
		wantTo(t, version, to, many(version), many(to))
	})
	up1 := box("",
		port("a", class2("be", 8, 1), class2("gold", 4, 1), class2("idle", 1, 1), ref("default", "be"), rule("r", "gold"), flag("up", 1)),
		port("b", class2("x", 64, 1), ref("default", "x"), rule("r", "x"), rule("s", "x")),
		port("c", class2("x", 2, 1), ref("default", "x"), flag("up", 0)),
		ident("system", "s"))
	up2 := box("",
		port("a", class3("be", 8, 1), class3("gold", 4, 1), class3("idle", 1, 1), ref("default", "be"), rule("r", "gold"), flag("up", 1)),
		port("b", class3("x", 64, 1), ref("default", "x"), rule("r", "x"), rule("s", "x")),
		port("c", class3("x", 2, 1), ref("default", "x"), flag("up", 0)),
		ident("system", "s"))
	for _, n := range []api.Node{full3(), full3(num("wait", 1)), full3(num("wait", 1000))} {
		wantTo(t, 3, 1, n, full1())
		wantTo(t, 3, 2, n, full2())
		wantTo(t, 3, 3, n, n)
	}
	wantTo(t, 2, 1, full2(), full1())
	wantTo(t, 2, 2, full2(), full2())
	wantTo(t, 2, 3, full2(), full3())
	wantTo(t, 1, 1, full1(), full1())
	wantTo(t, 1, 2, full1(), up1)
	wantTo(t, 1, 3, full1(), up2)
}

// TestToVersions: there are no versions but three, to which or from which a tree could be converted.
func TestToVersions(t *testing.T) { // P19.3
	for version := 1; version <= 3; version++ {
		for _, n := range []api.Node{{}, full(version), many(version)} {
			for _, to := range noVersions {
				wantToError(t, version, to, n, api.Version)
				wantToError(t, to, version, n, api.Version)
			}
		}
	}
	for _, version := range noVersions {
		for _, to := range noVersions {
			for _, n := range []api.Node{{}, full1(), full2(), box("x"), leaf("", api.Bool, 1, "")} {
				wantToError(t, version, to, n, api.Version)
			}
		}
	}
}

// TestLoses: what an earlier version has no room for, and nothing else, is lost.
func TestLoses(t *testing.T) { // P19.3, P19.4
	type row struct {
		n    api.Node
		lost [4]bool // to which versions
	}
	one2 := func(shaped uint64, more ...api.Node) api.Node {
		return box("", port("a", slices.Concat([]api.Node{class2("be", 8, shaped), ref("default", "be")}, more)...))
	}
	two2 := func(a, b uint64) api.Node {
		return box("", port("a", class2("be", 8, 1), class2("x", 8, a), ref("default", "be")), port("b", class2("be", 8, b), ref("default", "be")))
	}
	rows2 := []row{
		{api.Node{}, [4]bool{}},
		{box("", ident("system", "kind")), [4]bool{}},
		{many2(), [4]bool{}},
		{one2(1), [4]bool{}},
		{one2(1, rule("r", "be"), flag("up", 0)), [4]bool{}},
		{one2(0), [4]bool{1: true}},
		{one2(1, enum("kind", "edge")), [4]bool{1: true}},
		{one2(1, enum("kind", "core")), [4]bool{1: true}},
		{one2(0, enum("kind", "lab")), [4]bool{1: true}},
		{two2(1, 1), [4]bool{}},
		{two2(0, 1), [4]bool{1: true}},
		{two2(1, 0), [4]bool{1: true}},
		{two2(0, 0), [4]bool{1: true}},
		{full2(), [4]bool{1: true}},
	}
	var rows3 []row
	for _, r := range rows2 {
		n, err := migrate.Up(2, r.n)
		if err != api.OK {
			t.Fatalf("error %d of %s", err, show(r.n))
		}
		rows3 = append(rows3, row{n, r.lost})
		for _, wait := range []uint64{1, 10, 1000} {
			more := n
			more.Kids = slices.Concat(n.Kids, []api.Node{num("wait", wait)})
			rows3 = append(rows3, row{more, [4]bool{1: true, 2: true}})
		}
	}
	rows := [][]row{1: {{api.Node{}, [4]bool{}}, {full1(), [4]bool{}}, {many1(), [4]bool{}}, {box("", port("a", class1("be", 8), ref("default", "be"))), [4]bool{}}}, 2: rows2, 3: rows3}
	pairs(func(version, to int) {
		for _, r := range rows[version] {
			wantLoses(t, version, to, r.n, r.lost[to])
			if is := modelLoses(version, to, r.n); is != r.lost[to] {
				t.Errorf("the model of Loses(%d, %d, %s) is %v", version, to, show(r.n), is)
			}
		}
	})
}

// wantAll holds all calls for a valid tree against the model, and asks for what follows from the promises.
func wantAll(t *testing.T, version int, n api.Node) {
	t.Helper()
	if !valid.May(version, n) {
		t.Fatalf("%s is not of version %d", short(show(n)), version)
	}
	if version < 3 {
		is, err := migrate.Up(version, n)
		wantModel(t, "Up", version, version+1, n, is, err)
	}
	if version > 1 {
		is, err := migrate.Down(version, n)
		wantModel(t, "Down", version, version-1, n, is, err)
	}
	for to := 1; to <= 3; to++ {
		is, err := migrate.To(version, to, n)
		wantModel(t, "To", version, to, n, is, err)
		wantBack(t, version, to, n, is)
		wantBetween(t, version, to, n, is)
	}
}

func wantModel(t *testing.T, what string, version, to int, n, is api.Node, err api.Errno) {
	t.Helper()
	what += " of version " + strconv.Itoa(version)
	want, wantErr := modelTo(version, to, n)
	if err != wantErr || !sameList(listOf(is), want) || is.Name != "" || is.Key != "" {
		t.Errorf("%s to %d: %s is error %d and\n%s\nwant %d and\n%s", what, to, short(show(n)), err, short(show(is)), wantErr, short(showList(want)))
	}
	if err == api.OK && (!valid.May(to, is) || !same(is, tree.Sorted(is))) {
		t.Errorf("%s to %d: %s may not be", what, to, short(show(is)))
	}
}

// wantBack asks for the tree that was converted back, and whether something was lost.
func wantBack(t *testing.T, version, to int, n, there api.Node) {
	t.Helper()
	back, err := migrate.To(to, version, there)
	if err != api.OK || !valid.May(version, back) {
		t.Errorf("error %d of %s, back from version %d to %d", err, short(show(there)), to, version)
	}
	kept := same(back, n)
	if version <= to && !kept {
		t.Errorf("upwards from version %d to %d and back\n%s\nbecame\n%s", version, to, short(show(n)), short(show(back)))
	}
	wantLoses(t, version, to, n, !kept)
	if is := modelLoses(version, to, n); is == kept {
		t.Errorf("from version %d to %d and back %s became %s, but the model of Loses is %v", version, to, short(show(n)), short(show(back)), is)
	}
}

// wantBetween asks for the same tree by way of a version between, and by single steps.
func wantBetween(t *testing.T, version, to int, n, there api.Node) {
	t.Helper()
	for by := min(version, to); by <= max(version, to); by++ {
		between, err := migrate.To(version, by, n)
		is, err2 := migrate.To(by, to, between)
		if err != api.OK || err2 != api.OK || !same(is, there) {
			t.Errorf("%s from version %d to %d by way of %d is %s", short(show(n)), version, to, by, short(show(is)))
		}
	}
	is, err := n, api.OK
	for at := version; at < to && err == api.OK; at++ {
		is, err = migrate.Up(at, is)
	}
	for at := version; at > to && err == api.OK; at-- {
		is, err = migrate.Down(at, is)
	}
	if err != api.OK || !same(is, there) {
		t.Errorf("%s from version %d to %d step by step is %s", short(show(n)), version, to, short(show(is)))
	}
}

// TestSmall is all trees of a few shapes.
func TestSmall(t *testing.T) { // P19.1 to P19.4
	count := 0
	for version := 1; version <= 3; version++ {
		ports := smallPorts(version)
		var roots [][]api.Node
		roots = append(roots, nil)
		for _, p := range ports {
			roots = append(roots, []api.Node{p("a")})
			for i := 0; i < len(ports); i += 13 {
				roots = append(roots, []api.Node{p("a"), ports[i]("b")})
			}
		}
		for _, kids := range roots {
			for _, more := range smallTails(version) {
				wantAll(t, version, box("", slices.Concat(kids, more)...))
				count++
			}
		}
	}
	if count < 1400 {
		t.Errorf("%d trees only", count)
	}
}

// smallTails is what stands behind the ports.
func smallTails(version int) [][]api.Node {
	l := [][]api.Node{nil, {ident("system", "wait")}}
	if version == 3 {
		l = append(l, []api.Node{num("wait", 1)}, []api.Node{ident("system", "s"), num("wait", 1000)})
	}
	return l
}

// smallPorts is functions that make a port of a key.
func smallPorts(version int) []func(key string) api.Node {
	var l []func(key string) api.Node
	kinds := [][]api.Node{nil}
	if version > 1 {
		kinds = append(kinds, []api.Node{enum("kind", "edge")}, []api.Node{enum("kind", "lab")})
	}
	for _, classes := range smallClasses(version) {
		for _, kind := range kinds {
			for _, tail := range [][]api.Node{nil, {rule("shaped", "x")}, {rule("a", "x"), rule("kind", "x"), flag("up", 0)}, {flag("up", 1)}} {
				l = append(l, func(key string) api.Node {
					return port(key, slices.Concat(classes, []api.Node{ref("default", "x")}, kind, tail)...)
				})
			}
		}
	}
	return l
}

// smallClasses is one class or two, of which one is x.
func smallClasses(version int) [][]api.Node {
	switch version {
	case 1:
		return [][]api.Node{{class1("x", 1)}, {class1("limit", 2), class1("x", 64)}}
	case 2:
		return [][]api.Node{{class2("x", 1, 0)}, {class2("x", 1, 1)}, {class2("shaped", 2, 1), class2("x", 64, 0)}, {class2("limit", 2, 1), class2("x", 64, 1)}}
	}
	return [][]api.Node{{class3("x", 1, 0)}, {class3("x", 1, 1)}, {class3("depth", 2, 0), class3("x", 64, 1)}, {class3("wait", 2, 1), class3("x", 64, 1)}}
}

// chooser makes valid trees by chance, the same ones for the same seed.
type chooser struct{ *rand.Rand }

func (c chooser) one(l ...string) string { return l[c.Intn(len(l))] }

// number is one of some bounds, often a bound.
func (c chooser) number(least, most uint64) uint64 {
	switch c.Intn(4) {
	case 0:
		return least
	case 1:
		return most
	}
	return least + uint64(c.Int63n(int64(most-least+1)))
}

// keys is different keys, in order.
func (c chooser) keys(count int) []string {
	words := []string{"a", "b", "be", "class", "default", "depth", "kind", "limit", "port", "quantum", "rate", "rule", "shaped", "system", "up", "wait", "z-9", "a-very-long1", "x1"}
	c.Shuffle(len(words), func(i, k int) { words[i], words[k] = words[k], words[i] })
	keys := words[:count]
	slices.Sort(keys)
	return keys
}

func (c chooser) class(version int, key string) api.Node {
	limit := "limit"
	if version == 3 {
		limit = "depth"
	}
	n := box("class["+key+"]", num("burst", c.number(1500, 1000000)), num(limit, c.number(1, 64)), num("quantum", c.number(1500, 100000)), rate("rate", c.number(0, 1000000)))
	if version > 1 {
		n.Kids = append(n.Kids, flag("shaped", uint64(min(1, c.Intn(6)))))
	}
	return n
}

func (c chooser) port(version int, key string) api.Node {
	n := port(key)
	classes := c.keys(1 + c.Intn(8))
	for _, key := range classes {
		n.Kids = append(n.Kids, c.class(version, key))
	}
	n.Kids = append(n.Kids, ref("default", c.one(classes...)))
	if version > 1 && c.Intn(4) == 0 {
		n.Kids = append(n.Kids, enum("kind", c.one("edge", "core", "lab")))
	}
	if c.Intn(2) == 0 {
		n.Kids = append(n.Kids, flag("up", uint64(c.Intn(2))))
	}
	for _, key := range c.keys(c.Intn(17)) {
		n.Kids = append(n.Kids, box("rule["+key+"]", ref("class", c.one(classes...)), num("low", c.number(0, 65535)), num("high", c.number(0, 65535))))
	}
	return n
}

func (c chooser) tree(version int) api.Node {
	var n api.Node
	for _, key := range c.keys(c.Intn(5)) {
		n.Kids = append(n.Kids, c.port(version, key))
	}
	if c.Intn(2) == 0 {
		n.Kids = append(n.Kids, ident("system", c.keys(1)[0]))
	}
	if version == 3 && c.Intn(3) == 0 {
		n.Kids = append(n.Kids, num("wait", c.number(1, 1000)))
	}
	return tree.Sorted(n)
}

// TestChance is trees made by chance, of all sizes.
func TestChance(t *testing.T) { // P19.1 to P19.4
	c := chooser{rand.New(rand.NewSource(19))}
	lost := map[bool]int{}
	for range 100 {
		for version := 1; version <= 3; version++ {
			n := c.tree(version)
			wantAll(t, version, n)
			lost[migrate.Loses(version, 1, n)]++
		}
	}
	if lost[true] < 50 || lost[false] < 50 {
		t.Errorf("of all trees %d lose something, %d nothing", lost[true], lost[false])
	}
}

// TestSpoilt is valid trees with one node changed by chance: the error is that of valid.Check, or the tree is converted.
func TestSpoilt(t *testing.T) { // P19.1 to P19.4
	c := chooser{rand.New(rand.NewSource(1919))}
	refused := 0
	for i := range 900 {
		version := 1 + i%3
		n := c.tree(version)
		c.spoil(&n)
		err, _ := valid.Check(version, n)
		if err == api.OK {
			wantAll(t, version, n)
			continue
		}
		refused++
		if version < 3 {
			wantUpError(t, version, n, err)
		}
		if version > 1 {
			wantDownError(t, version, n, err)
		}
		for to := -1; to <= 5; to++ {
			wantToError(t, version, to, n, err)
		}
	}
	if refused < 400 {
		t.Errorf("only %d trees are refused", refused)
	}
}

// spoil changes a node of a tree, wherever it stands.
func (c chooser) spoil(n *api.Node) {
	for len(n.Kids) > 0 && c.Intn(4) > 0 {
		n = &n.Kids[c.Intn(len(n.Kids))]
	}
	switch c.Intn(7) {
	case 0:
		n.Name = c.one("", "a", "class", "depth", "limit", "port", "shaped", "wait", "kind")
	case 1:
		n.Key = c.one("", "a", "be", "A", "wait")
	case 2:
		n.Val.Num += uint64(c.Intn(3))
	case 3:
		n.Val.Text = c.one("", "a", "be", "A", "edge")
	case 4:
		n.Val.Kind = c.Intn(8)
	case 5:
		slices.Reverse(n.Kids)
	case 6:
		n.Kids = n.Kids[:c.Intn(len(n.Kids)+1)]
	}
}
