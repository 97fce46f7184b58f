package lex_test

import (
	"encoding/hex"
	"fmt"
	"slices"
	"strings"
	"testing"
	"unicode/utf8"

	"tollbar/api"
	"tollbar/lex"
)

// The calls of the chapter, with just these signatures, and the type, with just these fields.
var (
	_ func(string) ([]lex.Token, api.Errno, api.Pos) = lex.All
	_ func(string) bool                              = lex.Plain
	_ func(string) string                            = lex.Quote

	_ = struct {
		Kind int
		Text string
		At   api.Pos
	}(lex.Token{})
)

const letters = "abcdefghijklmnopqrstuvwxyzABCDEFGHIJKLMNOPQRSTUVWXYZ0123456789_-."

// at is a position, and the rest are tokens at one.
func at(line, col int) api.Pos                     { return api.Pos{Line: line, Col: col} }
func sign(kind, line, col int) lex.Token           { return lex.Token{Kind: kind, At: at(line, col)} }
func end(line, col int) lex.Token                  { return sign(lex.End, line, col) }
func semi(line, col int) lex.Token                 { return sign(lex.Semi, line, col) }
func word(text string, line, col int) lex.Token    { return lex.Token{lex.Word, text, at(line, col)} }
func literal(text string, line, col int) lex.Token { return lex.Token{lex.String, text, at(line, col)} }

// right is a text and its tokens.
type right struct {
	s string
	l []lex.Token
}

// tokens is a text and its tokens.
func tokens(s string, l ...lex.Token) right { return right{s, l} }

func (c right) check(t *testing.T) {
	t.Helper()
	if l, err, place := lex.All(c.s); !slices.Equal(l, c.l) || err != api.OK || place != at(0, 0) {
		t.Errorf("All(%.60q) = %.300q, %v, %v, want %.300q", c.s, fmt.Sprint(l), err, place, fmt.Sprint(c.l))
	}
}

// wrong is a text, and where its first problem is.
type wrong struct {
	s         string
	line, col int
}

func (c wrong) check(t *testing.T) {
	t.Helper()
	if l, err, place := lex.All(c.s); len(l) != 0 || err != api.ErrLex || place != at(c.line, c.col) {
		t.Errorf("All(%.60q) = %.300q, %v, %v, want ErrLex at %d, %d", c.s, fmt.Sprint(l), err, place, c.line, c.col)
	}
}

// picker gives the same numbers below its argument each time.
func picker() func(n int) int {
	state := uint32(1)
	return func(n int) int {
		state = state*1664525 + 1013904223
		return int(state>>16) % n
	}
}

func TestKinds(t *testing.T) { // P5.1
	for i, kind := range []int{lex.End, lex.Word, lex.String, lex.Open, lex.Close, lex.Semi} {
		if kind != i {
			t.Errorf("kind %d is %d", i, kind)
		}
	}
}

func TestExample(t *testing.T) { // P5.1
	tokens(`a "b\x41";`, word("a", 1, 1), literal("bA", 1, 3), semi(1, 10), end(1, 11)).check(t)
}

func TestNothing(t *testing.T) { // P5.1
	for _, c := range []right{
		tokens("", end(1, 1)),
		tokens(" ", end(1, 2)),
		tokens("   ", end(1, 4)),
		tokens("\t", end(1, 2)),
		tokens("\r", end(1, 2)),
		tokens("\n", end(2, 1)),
		tokens("\r\n", end(2, 1)),
		tokens("\n\r", end(2, 2)),
		tokens(" \t\r\n \t", end(2, 3)),
		tokens("\n\n\n", end(4, 1)),
		tokens("#", end(1, 2)),
		tokens("##", end(1, 3)),
		tokens("#\n", end(2, 1)),
		tokens("# a b", end(1, 6)),
		tokens("# a b\n", end(2, 1)),
		tokens("#a\n#b", end(2, 3)),
		tokens(" #a\n\n\t#b\n ", end(4, 2)),
		tokens("#a\rb", end(1, 5)), // only a newline ends a line
		tokens("#a\u2028b\u0085c\vd\fe\x00f", end(1, 13)),
		tokens(`#a "b \ {};@`, end(1, 13)),
		tokens("#\"\n#\"\n", end(3, 1)),
		tokens("#a\\\n", end(2, 1)),
	} {
		c.check(t)
	}
}

func TestEachKind(t *testing.T) { // P5.1
	for _, c := range []right{
		tokens("a", word("a", 1, 1), end(1, 2)),
		tokens(`"a"`, literal("a", 1, 1), end(1, 4)),
		tokens("{", sign(lex.Open, 1, 1), end(1, 2)),
		tokens("}", sign(lex.Close, 1, 1), end(1, 2)),
		tokens(";", semi(1, 1), end(1, 2)),
		tokens(letters, word(letters, 1, 1), end(1, 66)),
		tokens("-", word("-", 1, 1), end(1, 2)),
		tokens("...", word("...", 1, 1), end(1, 4)),
		tokens("_", word("_", 1, 1), end(1, 2)),
		tokens("007", word("007", 1, 1), end(1, 4)),
		tokens("-1.5E-7", word("-1.5E-7", 1, 1), end(1, 8)),
		tokens("aA zZ", word("aA", 1, 1), word("zZ", 1, 4), end(1, 6)),
		tokens(`""`, literal("", 1, 1), end(1, 3)),
		tokens(`" a  b "`, literal(" a  b ", 1, 1), end(1, 9)),
		tokens(";;", semi(1, 1), semi(1, 2), end(1, 3)),
		tokens("{ } ;", sign(lex.Open, 1, 1), sign(lex.Close, 1, 3), semi(1, 5), end(1, 6)),
		tokens("}}{{", sign(lex.Close, 1, 1), sign(lex.Close, 1, 2), sign(lex.Open, 1, 3), sign(lex.Open, 1, 4), end(1, 5)),
	} {
		c.check(t)
	}
	for i := range letters {
		c := letters[i : i+1]
		tokens(c, word(c, 1, 1), end(1, 2)).check(t)
		tokens(c+" "+c+c, word(c, 1, 1), word(c+c, 1, 3), end(1, 5)).check(t)
	}
}

func TestWithoutBlanks(t *testing.T) { // P5.1
	for _, c := range []right{
		tokens(`a"b"c`, word("a", 1, 1), literal("b", 1, 2), word("c", 1, 5), end(1, 6)),
		tokens(`"a""b"`, literal("a", 1, 1), literal("b", 1, 4), end(1, 7)),
		tokens(`""""`, literal("", 1, 1), literal("", 1, 3), end(1, 5)),
		tokens("a{b}c;d", word("a", 1, 1), sign(lex.Open, 1, 2), word("b", 1, 3), sign(lex.Close, 1, 4),
			word("c", 1, 5), semi(1, 6), word("d", 1, 7), end(1, 8)),
		tokens(`{"a"}"b";`, sign(lex.Open, 1, 1), literal("a", 1, 2), sign(lex.Close, 1, 5), literal("b", 1, 6), semi(1, 9), end(1, 10)),
		tokens("a#b", word("a", 1, 1), end(1, 4)),
		tokens("a#b\nc", word("a", 1, 1), word("c", 2, 1), end(2, 2)),
		tokens(`"a"#b`, literal("a", 1, 1), end(1, 6)),
		tokens(";#;\n;", semi(1, 1), semi(2, 1), end(2, 2)),
		tokens(`"#"#"`, literal("#", 1, 1), end(1, 6)),
		tokens("a\nb\rc\td e", word("a", 1, 1), word("b", 2, 1), word("c", 2, 3), word("d", 2, 5), word("e", 2, 7), end(2, 8)),
		tokens("port a{up true;}", word("port", 1, 1), word("a", 1, 6), sign(lex.Open, 1, 7), word("up", 1, 8),
			word("true", 1, 11), semi(1, 15), sign(lex.Close, 1, 16), end(1, 17)),
	} {
		c.check(t)
	}
}

func TestParts(t *testing.T) { // P5.1
	for _, c := range []struct{ s, text string }{
		{`"a\"b"`, `a"b`}, {`"\""`, `"`}, {`"\"\""`, `""`}, {`"\\"`, `\`}, {`"\\\\"`, `\\`}, {`"\\\""`, `\"`},
		{`"\n"`, "\n"}, {`"\t"`, "\t"}, {`"a\nb\tc"`, "a\nb\tc"}, {`"\\n"`, `\n`}, {`"\\x41"`, `\x41`}, {`"\\t\\"`, `\t\`},
		{`"\x41"`, "A"}, {`"\x411"`, "A1"}, {`"\x41\x42"`, "AB"}, {`"\x00"`, "\x00"}, {`"\xff"`, "\xff"}, {`"\x0a"`, "\n"},
		{`"\x22"`, `"`}, {`"\x5c"`, `\`}, {`"\x5cn"`, `\n`}, {`"\xc3\xa9"`, "é"}, {`"\xe2\x82"`, "\xe2\x82"}, {`"\x7f\x80"`, "\x7f\x80"},
		{`"{};# a"`, "{};# a"}, {`"'"`, "'"}, {`"nt0/x"`, "nt0/x"}, {"\"\t\"", "\t"}, {"\"\r\"", "\r"}, {"\"a\r\tb\"", "a\r\tb"},
		{"\"\x00\x01\x1f\x7f\v\f\"", "\x00\x01\x1f\x7f\v\f"},
		{`"é"`, "é"}, {`"€"`, "€"}, {`"😀"`, "😀"}, {"\"\u0080\"", "\u0080"}, {"\"\u07ff\"", "\u07ff"}, {"\"\u2028\"", "\u2028"},
		{"\"\ufffd\"", "\ufffd"}, {"\"a\ufffdb\ufffd\"", "a\ufffdb\ufffd"}, {"\"\ufeff\"", "\ufeff"}, {"\"\U0010ffff\"", "\U0010ffff"},
		{"\"\\\"é\\x41€\\\\\"", `"éA€\`},
	} {
		width := utf8.RuneCountInString(c.s)
		tokens(c.s, literal(c.text, 1, 1), end(1, 1+width)).check(t)
		tokens("a "+c.s+";", word("a", 1, 1), literal(c.text, 1, 3), semi(1, 3+width), end(1, 4+width)).check(t)
	}
	for i := range 128 {
		if c := string(rune(i)); !strings.Contains("\"\\\n", c) {
			tokens(`"`+c+`"`, literal(c, 1, 1), end(1, 4)).check(t)
		}
	}
	for _, c := range others {
		tokens(`"`+c+`"`, literal(c, 1, 1), end(1, 4)).check(t)
	}
	const digits = "0123456789abcdef"
	for i := range 256 {
		tokens(`"\x`+digits[i/16:i/16+1]+digits[i%16:i%16+1]+`"`, literal(string([]byte{byte(i)}), 1, 1), end(1, 7)).check(t)
	}
}

func TestPositions(t *testing.T) { // P5.1
	for _, c := range []right{
		tokens("a\nb", word("a", 1, 1), word("b", 2, 1), end(2, 2)),
		tokens("a\n\n b", word("a", 1, 1), word("b", 3, 2), end(3, 3)),
		tokens("aa bb\ncc", word("aa", 1, 1), word("bb", 1, 4), word("cc", 2, 1), end(2, 3)),
		tokens("\ta\t\tb", word("a", 1, 2), word("b", 1, 5), end(1, 6)),
		tokens("\ra\r\nb\r", word("a", 1, 2), word("b", 2, 1), end(2, 3)),
		tokens("a\n", word("a", 1, 1), end(2, 1)),
		tokens("#é\n;", semi(2, 1), end(2, 2)),
		tokens(`"é";`, literal("é", 1, 1), semi(1, 4), end(1, 5)),
		tokens(`"€€" a`, literal("€€", 1, 1), word("a", 1, 6), end(1, 7)),
		tokens(`"😀"a`, literal("😀", 1, 1), word("a", 1, 4), end(1, 5)),
		tokens("\"\ufffd\" a", literal("\ufffd", 1, 1), word("a", 1, 5), end(1, 6)),
		tokens("\"\t\r\"a", literal("\t\r", 1, 1), word("a", 1, 5), end(1, 6)),
		tokens(`"\n" a`, literal("\n", 1, 1), word("a", 1, 6), end(1, 7)), // not a newline of the text
		tokens(`"\x0a"a`, literal("\n", 1, 1), word("a", 1, 7), end(1, 8)),
		tokens("#\xff\n\"é\" a", literal("é", 2, 1), word("a", 2, 5), end(2, 6)),
		tokens("#é", end(1, 3)), tokens("#€", end(1, 3)), tokens("#😀", end(1, 3)), tokens("#\ufffd", end(1, 3)),
		tokens("#e\u0301", end(1, 4)),                                  // two characters, though one is drawn
		tokens("#\xff", end(1, 3)), tokens("#\xff\xfe\x80", end(1, 5)), // bytes of no encoding
		tokens("#\xc3", end(1, 3)), tokens("#\xa9", end(1, 3)), // parts of one
		tokens("#\xe2\x82", end(1, 4)), tokens("#\xe2\x82é", end(1, 5)), // two of three bytes
		tokens("#\xf0\x9f\x98", end(1, 5)),                                 // three of four
		tokens("#\xed\xa0\x80", end(1, 5)), tokens("#\xc0\x80", end(1, 4)), // of a surrogate, of a NUL
		tokens("#\xf4\x90\x80\x80", end(1, 6)), tokens("#\xef\xbf", end(1, 4)),
	} {
		c.check(t)
	}
	for n := range 300 {
		lines, blanks := strings.Repeat("\n", n), strings.Repeat(" ", n)
		tokens(lines+blanks+"a", word("a", n+1, n+1), end(n+1, n+2)).check(t)
	}
}

// strays is bytes none of which is part of a valid encoding.
var strays = []string{
	"\x80", "\xbf", "\xc0", "\xc1", "\xc3", "\xe2", "\xef", "\xf0", "\xf5", "\xfe", "\xff",
	"\xe2\x82", "\xef\xbf", "\xf0\x9f\x98", "\xc0\x80", "\xc1\xbf", "\xe0\x80\x80", "\xed\xa0\x80", "\xed\xbf\xbf", "\xf4\x90\x80\x80",
	"\xc3\xc3", "\xff\xff", "\xa9\xc3",
}

// others is characters of several bytes; some pass for letters, digits, signs or blanks elsewhere.
var others = []string{
	"é", "ß", "Ω", "я", "漢", "€", "😀", "\u017f", "\u212a", "\uff41", "\uff21", "\U0001d41a", "\u0663", "\uff10",
	"\uff3f", "\u2212", "\u2013", "\uff0e", "\uff1b", "\uff5b", "\u201c", "\u0301", "\ufe0f",
	"\u0080", "\u0085", "\u00a0", "\u00ad", "\u2002", "\u2028", "\u2029", "\u3000", "\ufeff", "\ufffd", "\ufffe", "\uffff", "\U0010ffff",
}

func TestOtherCharacter(t *testing.T) { // P5.1
	for i := range 128 {
		c := string(rune(i))
		if strings.Contains(letters+" \t\r\n#\"{};", c) {
			continue
		}
		wrong{c, 1, 1}.check(t)
		wrong{"a" + c, 1, 2}.check(t)
		wrong{"a;\n \t" + c + "a", 2, 3}.check(t)
		wrong{`"` + c, 1, 3}.check(t) // it is none in a string, so the end is wrong
	}
	for _, c := range slices.Concat(others, strays) {
		wrong{c, 1, 1}.check(t)
		wrong{"a" + c + "a", 1, 2}.check(t)
		wrong{"\"é\"\t" + c, 1, 5}.check(t)
		wrong{"#" + c + "\n" + c, 2, 1}.check(t)
		wrong{"#" + c + "\n{" + c, 2, 2}.check(t)
		tokens("#"+c+"\n;", semi(2, 1), end(2, 2)).check(t)
	}
	for r := rune(128); r <= utf8.MaxRune; r++ {
		if l, err, place := lex.All(string(r)); len(l) != 0 || err != api.ErrLex || place != at(1, 1) {
			t.Fatalf("All of %x = %q, %v, %v", r, fmt.Sprint(l), err, place)
		}
	}
}

func TestWrongString(t *testing.T) { // P5.1
	for _, c := range []wrong{
		{`"`, 1, 2}, {`"a`, 1, 3}, {`a "b`, 1, 5}, {`"é`, 1, 3}, {`"a" "`, 1, 6}, {`"""`, 1, 4}, {`"a\"`, 1, 5}, {`"\\\"`, 1, 6}, // the end inside
		{`"\n`, 1, 4}, {`"\x41`, 1, 6}, {"\"\t\r", 1, 4}, {"\n\n\"a", 3, 3}, {`"#`, 1, 3}, {`"a;`, 1, 4}, {"\"\ufffd", 1, 3},
		{"\"\n\"", 1, 2}, {"\"ab\n\"", 1, 4}, {"\"é\t\n", 1, 4}, {"a\n\"b\nc\"", 2, 3}, {"\"\r\n\"", 1, 3}, {"\"#\n\"", 1, 3}, // a newline
		{`"\`, 1, 3}, {`"a\`, 1, 4}, {`"é\`, 1, 4}, {`"\\\`, 1, 5}, {"\n \"\\", 2, 4}, // the end behind a backslash
		{"\"\\\n\"", 1, 3}, {"\"a\\\n", 1, 4}, {"\"\\\r\n\"", 1, 3}, {"\"\\\t\"", 1, 3},
		{`"\x`, 1, 4}, {`"a\x`, 1, 5}, {`"é\x`, 1, 5}, {`"\x4`, 1, 5}, {`"\xf`, 1, 5}, {"\n\"\\x", 2, 4}, {"\n\"\\x0", 2, 5}, // the end behind \x
		{`"\x"`, 1, 4}, {`"\x4"`, 1, 5}, {`"\x""`, 1, 4}, {`"\x4""`, 1, 5}, {`"\x\"`, 1, 4}, {`"\x4\"`, 1, 5}, {`"\x 41"`, 1, 4}, {`"\x4 1"`, 1, 5},
		{`"\xA0"`, 1, 4}, {`"\xF0"`, 1, 4}, {`"\x0A"`, 1, 5}, {`"\x0F"`, 1, 5}, {`"\xAA"`, 1, 4}, {`"\xg0"`, 1, 4}, {`"\x0g"`, 1, 5}, {`"\xgg"`, 1, 4},
		{`"\x-1"`, 1, 4}, {`"\x+1"`, 1, 4}, {`"\x_1"`, 1, 4}, {`"\x1_"`, 1, 5}, {`"\xx1"`, 1, 4}, {`"\x0x"`, 1, 5}, {"\"\\x\n1\"", 1, 4}, {"\"\\x1\n\"", 1, 5},
		{`"\X41"`, 1, 3}, {`"\N"`, 1, 3}, {`"\T"`, 1, 3}, {`"\é"`, 1, 3}, {`"é\é"`, 1, 4},
	} {
		c.check(t)
	}
	for _, c := range strays {
		wrong{`"` + c + `"`, 1, 2}.check(t)
		wrong{`"é` + c + `"`, 1, 3}.check(t)
		wrong{"\"\ufffd" + c + `"`, 1, 3}.check(t)
		wrong{"a\n;\"\\x41\t" + c, 2, 8}.check(t)
	}
}

func TestWrongEscape(t *testing.T) { // P5.1
	check := func(c string) {
		if !strings.Contains(`"\ntx`, c) {
			wrong{`"\` + c + `"`, 1, 3}.check(t)
			wrong{`a "é\` + c + `41"`, 1, 6}.check(t)
		}
		if !strings.Contains("0123456789abcdef", c) {
			wrong{`"\x` + c + `0"`, 1, 4}.check(t)
			wrong{`"\x0` + c + `"`, 1, 5}.check(t)
			wrong{`"\x` + c + c + `"`, 1, 4}.check(t)
			wrong{`"\x` + c, 1, 4}.check(t)
			wrong{`"\xf` + c, 1, 5}.check(t)
		}
	}
	for i := range 256 {
		check(string([]byte{byte(i)}))
	}
	for _, c := range slices.Concat(others, strays) {
		check(c)
	}
}

func TestFirstProblem(t *testing.T) { // P5.1
	for _, c := range []wrong{
		{"@@", 1, 1}, {"@ \"", 1, 1}, {"\"a\n@", 1, 3}, {"\"a\n\xff", 1, 3}, {"\"\xff\n", 1, 2}, {"\xff@", 1, 1}, {"@\xff", 1, 1},
		{`"\q\`, 1, 3}, {`"\q\w"`, 1, 3}, {`"\xgh`, 1, 4}, {`"\x0gh`, 1, 5}, {`"\q`, 1, 3}, {`"\xg`, 1, 4}, {`"a\q` + "\xff", 1, 4},
		{"\"\xff\\q\"", 1, 2}, {"\"\\\xff\xff\"", 1, 3}, {"\"\\x\xff\xff\"", 1, 4}, {"\"\\x\xffg\"", 1, 4}, {"\"\\x0\xff\xff\"", 1, 5},
		{"\"a\n\"b\n", 1, 3}, {"#@\n@", 2, 1}, {"\"@\" @ @", 1, 5}, {`"\"@"@`, 1, 6}, {"a;\n\n ,\n,", 3, 2}, {"\"\\\n\n", 1, 3}, {"{\"\" 'a' \"", 1, 5},
		{`\"`, 1, 1}, {`a\n`, 1, 2}, {`"a"\n`, 1, 4}, {"/* a */", 1, 1}, {"a # b \n/", 2, 1}, {"a=b", 1, 2}, {"[a]", 1, 1}, {"a,b", 1, 2},
	} {
		c.check(t)
	}
}

func TestLimit(t *testing.T) { // P5.1
	full := func(c, behind string) string { return strings.Repeat(c, 8192-len(behind)) + behind }
	tokens(full("a", ""), word(full("a", ""), 1, 1), end(1, 8193)).check(t)
	tokens(full(" ", ""), end(1, 8193)).check(t)
	tokens(full("\n", ""), end(8193, 1)).check(t)
	tokens(full("#", ""), end(1, 8193)).check(t)
	tokens(full(" ", "a"), word("a", 1, 8192), end(1, 8193)).check(t)
	tokens("#a"+strings.Repeat("é", 4095), end(1, 4098)).check(t)
	tokens(`"`+full("a", `"`)[1:], literal(strings.Repeat("a", 8190), 1, 1), end(1, 8193)).check(t)
	signs := make([]lex.Token, 8192)
	for i := range signs {
		signs[i] = semi(1, i+1)
	}
	tokens(full(";", ""), append(signs, end(1, 8193))...).check(t)
	wrong{full(" ", "@"), 1, 8192}.check(t)
	wrong{full(" ", `"`), 1, 8193}.check(t)
	wrong{full("a", "\xff"), 1, 8192}.check(t)
	wrong{`"` + full("\t", "")[1:], 1, 8193}.check(t)
	for _, s := range []string{
		full("a", "") + "a", full(" ", "") + " ", full(";", "") + ";", full("\n", "") + "\n", full("#", "") + "#",
		full("a", "") + "@", "@" + full("a", ""), full("@", "") + "@", full("\xff", "") + "\xff", `"` + full("a", ""), "\"\n" + full("a", ""),
		"#" + strings.Repeat("é", 4096), strings.Repeat("€", 2731), strings.Repeat("😀", 2049), // fewer characters than bytes
		strings.Repeat(" ", 8194), strings.Repeat("a", 16384), strings.Repeat(" ", 65536), strings.Repeat("a", 65537), strings.Repeat("{", 1<<20),
	} {
		if l, err, place := lex.All(s); len(l) != 0 || err != api.ErrBig || place != at(0, 0) {
			t.Errorf("All of %d bytes, %.10q: %d tokens, %v, %v", len(s), s, len(l), err, place)
		}
	}
}

func TestNothingBesideError(t *testing.T) { // P5.1
	for _, c := range []wrong{
		{"a @", 1, 3}, {"a b c @", 1, 7}, {`a "b" "c`, 1, 9}, {`a { "b" ; } "\q"`, 1, 15}, {`"a\x4"`, 1, 6}, {"a;\n\"b", 2, 3}, {"a\xff", 1, 2},
	} {
		c.check(t)
		// Nothing of it is left for the next call.
		tokens("a;", word("a", 1, 1), semi(1, 2), end(1, 3)).check(t)
	}
}

func TestNewMemory(t *testing.T) { // P5.1
	const s = `a "b" { } ;`
	first, _, _ := lex.All(s)
	second, _, _ := lex.All(s)
	for i := range first {
		first[i] = lex.Token{Kind: 9, Text: "z"}
	}
	_ = append(first[:2], lex.Token{Kind: 8})
	want := []lex.Token{word("a", 1, 1), literal("b", 1, 3), sign(lex.Open, 1, 7), sign(lex.Close, 1, 9), semi(1, 11), end(1, 12)}
	if !slices.Equal(second, want) {
		t.Errorf("All shares: %v", second)
	}
	tokens(s, want...).check(t)
}

func TestPlain(t *testing.T) { // P5.2
	check := func(s string, want bool) {
		t.Helper()
		if is := lex.Plain(s); is != want {
			t.Errorf("Plain(%.60q) = %v", s, is)
		}
	}
	check("", false)
	check(letters, true)
	for _, s := range []string{"a", "-", ".", "_", "0", "a-b", "a.b_c", "007", "-1", "version", "True", "..", "A0-Z9", strings.Repeat("a", 12)} {
		check(s, true)
		check(s+s, true)
		check(s+" "+s, false)
		check(`"`+s+`"`, false)
		check("\""+s, false)
	}
	// However long it is.
	for _, n := range []int{8191, 8192, 8193, 100000} {
		check(strings.Repeat("a", n), true)
		check(strings.Repeat("a", n)+" ", false)
		check("#"+strings.Repeat("a", n), false)
	}
	around := func(c string, want bool) {
		t.Helper()
		for _, s := range []string{c, c + "a", "a" + c, "a" + c + "a", c + c, "ab" + c + "cd", "abc" + c} {
			check(s, want)
		}
	}
	for i := range 256 {
		c := string([]byte{byte(i)})
		around(c, strings.Contains(letters, c))
	}
	for _, c := range slices.Concat(others, strays, []string{`""`, "a b", "\r\n", " a", "a ", "#a", "{}", "\na", "a\n", `\x41`}) {
		around(c, false)
	}
}

// quoted is how Quote has to write a character.
func quoted(c string) string {
	switch {
	case c == `"`, c == `\`:
		return `\` + c
	case c == "\n":
		return `\n`
	case c == "\t":
		return `\t`
	case c[0] < 32, c[0] == 127, !utf8.ValidString(c):
		return `\x` + hex.EncodeToString([]byte(c))
	}
	return c
}

func TestQuote(t *testing.T) { // P5.2
	check := func(s, want string) {
		t.Helper()
		if q := lex.Quote(s); q != `"`+want+`"` {
			t.Errorf("Quote(%q) = %q, want %q within quotes", s, q, want)
		}
	}
	for _, c := range []struct{ s, want string }{
		{"", ""}, {"a", "a"}, {"a b", "a b"}, {`"`, `\"`}, {`\`, `\\`}, {`\\`, `\\\\`}, {`\"`, `\\\"`}, {`\n`, `\\n`}, {`\x41`, `\\x41`},
		{"\n", `\n`}, {"\t", `\t`}, {"\r", `\x0d`}, {"\r\n", `\x0d\n`}, {"\x00", `\x00`}, {"\x07", `\x07`}, {"\x1b", `\x1b`}, {"\x1f", `\x1f`}, {"\x7f", `\x7f`},
		{" ", " "}, {"'", "'"}, {"#{};", "#{};"}, {"~!", "~!"}, {"a\nb\tc", `a\nb\tc`}, {"\v\f", `\x0b\x0c`}, {"\x0041", `\x0041`},
		{"é", "é"}, {"€", "€"}, {"😀", "😀"}, {"aé€😀", "aé€😀"}, {"\ufffd", "\ufffd"}, {"\u0080\u0085\u009f", "\u0080\u0085\u009f"},
		{"\x80", `\x80`}, {"\xff", `\xff`}, {"\xAB", `\xab`}, {"\xc3", `\xc3`}, {"\xa9", `\xa9`}, {"\xc3é", `\xc3é`}, {"é\xa9", `é\xa9`}, {"\xc3\"", `\xc3\"`},
		{"\xe2\x82", `\xe2\x82`}, {"\xe2\x82\xac\xac", `€\xac`}, {"\xe2\x82a\xac", `\xe2\x82a\xac`}, {"\xf0\x9f\x98", `\xf0\x9f\x98`},
		{"\xef\xbf", `\xef\xbf`}, {"\xff\ufffd", `\xff` + "\ufffd"}, {"\ufffd\xff", "\ufffd" + `\xff`}, {"\xef\ufffd", `\xef` + "\ufffd"},
		{"\xed\xa0\x80", `\xed\xa0\x80`}, {"\xc0\x80", `\xc0\x80`}, {"\xf4\x90\x80\x80", `\xf4\x90\x80\x80`}, {"\xf8\x88\x80\x80\x80", `\xf8\x88\x80\x80\x80`},
		{strings.Repeat("a", 10000), strings.Repeat("a", 10000)}, {strings.Repeat("\xff", 3000), strings.Repeat(`\xff`, 3000)},
	} {
		check(c.s, c.want)
	}
	for i := range 256 {
		c := string([]byte{byte(i)})
		check(c, quoted(c))
		check("a"+c+"é", "a"+quoted(c)+"é")
		check(c+c+" "+c, quoted(c)+quoted(c)+" "+quoted(c))
	}
	for r := rune(0); r <= utf8.MaxRune; r += 64 {
		var s, want strings.Builder
		for i := range rune(64) {
			c := string(r + i)
			s.WriteString(c)
			want.WriteString(quoted(c))
		}
		check(s.String(), want.String())
	}
}

// roundTrip tells where a text, quoted, isn't one string with that text, and the end.
func roundTrip(t *testing.T, s string) {
	t.Helper()
	q := lex.Quote(s)
	tokens(q, literal(s, 1, 1), end(1, 1+utf8.RuneCountInString(q))).check(t)
	// Nor does it run into what stands beside it.
	tokens("a"+q+q+"b", word("a", 1, 1), literal(s, 1, 2), literal(s, 1, 2+utf8.RuneCountInString(q)),
		word("b", 1, 2+2*utf8.RuneCountInString(q)), end(1, 3+2*utf8.RuneCountInString(q))).check(t)
}

func TestQuoteIsRead(t *testing.T) { // P5.3
	for _, s := range slices.Concat(others, strays, []string{"", "a", `"`, `\`, "\n", `\n`, `\x4`, "# a", "{;}", "a\r\nb", "\x00", " "}) {
		roundTrip(t, s)
		roundTrip(t, s+s)
		roundTrip(t, "a"+s+"f")
	}
	for i := range 256 {
		roundTrip(t, string([]byte{byte(i)}))
		for j := range 256 {
			roundTrip(t, string([]byte{byte(i), byte(j)}))
		}
	}
	for r := rune(0); r <= utf8.MaxRune; r += 64 {
		var s strings.Builder
		for i := range rune(64) {
			s.WriteRune(r + i)
		}
		roundTrip(t, s.String())
	}
	pick := picker()
	for range 3000 {
		b := make([]byte, pick(30))
		for i := range b {
			b[i] = byte(pick(256))
		}
		roundTrip(t, string(b))
	}
}

func TestQuoteAtLimit(t *testing.T) { // P5.1, P5.3
	for _, s := range []string{strings.Repeat("a", 8190), strings.Repeat(`"`, 4095), strings.Repeat("\xff", 2047) + "aa", strings.Repeat("é", 4095)} {
		q := lex.Quote(s)
		tokens(q, literal(s, 1, 1), end(1, 1+utf8.RuneCountInString(q))).check(t)
		if l, err, place := lex.All(lex.Quote(s + "a")); len(l) != 0 || err != api.ErrBig || place != at(0, 0) {
			t.Errorf("All of a quoted text of %d bytes: %d tokens, %v, %v", len(s)+1, len(l), err, place)
		}
	}
}

// place is the position of the character that begins behind so many bytes.
func place(s string, ahead int) api.Pos {
	line := s[strings.LastIndexByte(s[:ahead], '\n')+1 : ahead]
	return at(1+strings.Count(s[:ahead], "\n"), 1+utf8.RuneCountInString(line))
}

// plainString is what the parts of a string say, by the chapter's words, and where behind so many bytes it ends; or where it is wrong.
func plainString(s string, i int) (string, int, bool) {
	var text []byte
	for i < len(s) {
		r, n := utf8.DecodeRuneInString(s[i:])
		switch {
		case s[i] == '"':
			return string(text), i + 1, true
		case s[i] == '\n', r == utf8.RuneError && n == 1:
			return "", i, false
		case s[i] != '\\':
			text = append(text, s[i:i+n]...)
			i += n
			continue
		}
		if i++; i == len(s) {
			break
		}
		which := strings.IndexByte(`"\ntx`, s[i])
		if which < 0 {
			return "", i, false
		}
		i++
		if which < 4 {
			text = append(text, "\"\\\n\t"[which])
			continue
		}
		for behind := i + 2; i < behind; i++ {
			if i == len(s) || strings.IndexByte("0123456789abcdef", s[i]) < 0 {
				return "", i, false
			}
		}
		c, _ := hex.DecodeString(s[i-2 : i])
		text = append(text, c...)
	}
	return "", i, false
}

// plainAll is what All has to answer, by the chapter's words, of a text that isn't too great.
func plainAll(s string) ([]lex.Token, api.Errno, api.Pos) {
	var l []lex.Token
	for i := 0; i < len(s); {
		begin := i
		switch kind := strings.IndexByte("{};", s[i]); {
		case strings.IndexByte(" \t\r\n", s[i]) >= 0:
			i++
		case s[i] == '#':
			for i < len(s) && s[i] != '\n' {
				i++
			}
		case strings.IndexByte(letters, s[i]) >= 0:
			for i < len(s) && strings.IndexByte(letters, s[i]) >= 0 {
				i++
			}
			l = append(l, lex.Token{Kind: lex.Word, Text: s[begin:i], At: place(s, begin)})
		case kind >= 0:
			l = append(l, lex.Token{Kind: lex.Open + kind, At: place(s, begin)})
			i++
		case s[i] == '"':
			text, behind, ok := plainString(s, i+1)
			if !ok {
				return nil, api.ErrLex, place(s, behind)
			}
			l = append(l, lex.Token{Kind: lex.String, Text: text, At: place(s, begin)})
			i = behind
		default:
			return nil, api.ErrLex, place(s, i)
		}
	}
	return append(l, lex.Token{Kind: lex.End, At: place(s, len(s))}), api.OK, at(0, 0)
}

// byWords holds what is answered of a text against the chapter's words.
func byWords(t *testing.T, s string) {
	t.Helper()
	l, err, where := lex.All(s)
	wantL, wantErr, wantWhere := plainAll(s)
	if !slices.Equal(l, wantL) || err != wantErr || where != wantWhere {
		t.Errorf("All(%q) = %q, %v, %v, want %q, %v, %v", s, fmt.Sprint(l), err, where, fmt.Sprint(wantL), wantErr, wantWhere)
	}
	if is, want := lex.Plain(s), err == api.OK && len(l) == 2 && l[0].Kind == lex.Word && l[0].Text == s; is != want {
		t.Errorf("Plain(%q) = %v", s, is)
	}
}

// pieces is what texts are made of.
var pieces = []string{
	`"`, `\`, "x", "4", "n", "a", "\n", "#", " ", ";", "é", "\xff", "{", "F", "}", "\t", "\r", "t", "-", "@", "\ufffd", "\xc3", "\xa9", "€", "😀", "\x00", "f", "0",
}

func TestByWords(t *testing.T) { // P5.1, P5.2
	var each func(s string, from []string, n int)
	each = func(s string, from []string, n int) {
		byWords(t, s)
		if n > 0 {
			for _, p := range from {
				each(s+p, from, n-1)
			}
		}
	}
	each("", pieces[:13], 4)
	each("", pieces, 3)
	each(`"`, pieces[:13], 4)
	each(`a "\x`, pieces, 3)
	pick := picker()
	for range 30000 {
		var s strings.Builder
		for range pick(40) {
			// Mostly what may stand there, so that not every text ends at its first piece.
			if pick(8) > 0 {
				s.WriteString([]string{`"a\n\x4f\"é"`, "ab-", " ", ";", "{", "\n", "#é\xff\n", "}"}[pick(8)])
			} else {
				s.WriteString(pieces[pick(len(pieces))])
			}
		}
		byWords(t, s.String())
	}
}

func TestTokensDoNotOverlap(t *testing.T) { // P5.3
	pick := picker()
	for range 3000 {
		var s strings.Builder
		for range pick(30) {
			s.WriteString([]string{`"a\n\x4f\"é"`, `"{ # "`, "ab-", "7.", " ", ";", "{", "\n", "\t", "#é\" ;\n", "}", `""`}[pick(12)])
		}
		apart(t, s.String())
	}
}

// apart tells where a text, cut ahead of each token, isn't made of pieces with just that token.
func apart(t *testing.T, s string) {
	t.Helper()
	l, err, _ := lex.All(s)
	if err != api.OK {
		t.Errorf("All(%q): %v", s, err)
		return
	}
	begin, next := -1, 0
	for ahead := range len(s) + 1 {
		if next == len(l) || ahead < len(s) && !utf8.RuneStart(s[ahead]) || place(s, ahead) != l[next].At {
			continue
		}
		if begin >= 0 {
			piece, err, _ := lex.All(s[begin:ahead])
			if len(piece) != 2 || piece[0].Kind != l[next-1].Kind || piece[0].Text != l[next-1].Text || err != api.OK {
				t.Errorf("All(%q) = %q, %v, want token %d alone", s[begin:ahead], fmt.Sprint(piece), err, next-1)
			}
		}
		begin = ahead
		next++
	}
	if next != len(l) {
		t.Errorf("All(%q) = %q: %d are where none can begin", s, fmt.Sprint(l), len(l)-next)
	}
}
