package scalar_test

import (
	"math"
	"math/big"
	"slices"
	"strings"
	"testing"

	"tollbar/api"
	"tollbar/scalar"
)

// The calls of the chapter, with just these signatures.
var (
	_ func(string) (uint64, bool) = scalar.Uint
	_ func(uint64) string         = scalar.ShowUint
	_ func(string) (uint64, bool) = scalar.Rate
	_ func(uint64) string         = scalar.ShowRate
	_ func(string) bool           = scalar.Ident
)

const (
	letters = "abcdefghijklmnopqrstuvwxyz"
	numbers = "0123456789"
	inNames = letters + numbers + "-"
)

func wantUint(t *testing.T, s string, want uint64, ok bool) {
	t.Helper()
	if x, is := scalar.Uint(s); x != want || is != ok {
		t.Errorf("Uint(%.60q) = %d, %v, want %d, %v", s, x, is, want, ok)
	}
}

func wantRate(t *testing.T, s string, want uint64, ok bool) {
	t.Helper()
	if x, is := scalar.Rate(s); x != want || is != ok {
		t.Errorf("Rate(%.60q) = %d, %v, want %d, %v", s, x, is, want, ok)
	}
}

func wantIdent(t *testing.T, s string, want bool) {
	t.Helper()
	if is := scalar.Ident(s); is != want {
		t.Errorf("Ident(%.60q) = %v, want %v", s, is, want)
	}
}

// zeros and nines are so many digits.
func zeros(n int) string { return strings.Repeat("0", n) }
func nines(n int) string { return strings.Repeat("9", n) }

// picker gives the same numbers each time.
func picker() func() uint64 {
	state := uint64(1)
	return func() uint64 {
		state = state*6364136223846793005 + 1442695040888963407
		return state ^ state>>29
	}
}

// samples is numbers of all sizes, the edges among them.
func samples() []uint64 {
	l := []uint64{math.MaxUint64, math.MaxUint64 - 1, math.MaxUint64 / 1000, math.MaxUint64 / 1000000}
	for x := range uint64(2100) {
		l = append(l, x)
	}
	for i := range 64 {
		l = append(l, 1<<i-1, 1<<i, 1<<i+1)
	}
	for ten, i := uint64(1), 0; i < 20; ten, i = ten*10, i+1 {
		l = append(l, ten-1, ten, ten+1, ten*1000, ten*1001, ten/2, ten+1000, ten+1000000)
	}
	pick := picker()
	for i := range 20000 {
		x := pick() >> (i % 64)
		l = append(l, x, x/1000*1000, x/1000000*1000000)
	}
	return l
}

// texts is a number, and its text.
var texts = []struct {
	x uint64
	s string
}{
	{0, "0"}, {1, "1"}, {7, "7"}, {8, "8"}, {9, "9"}, {10, "10"}, {11, "11"}, {100, "100"}, {101, "101"}, {120, "120"}, {1234567890, "1234567890"},
	{255, "255"}, {256, "256"}, {65535, "65535"}, {65536, "65536"}, {1500, "1500"}, {8192, "8192"}, {1000, "1000"}, {1000000, "1000000"},
	{2147483647, "2147483647"}, {2147483648, "2147483648"}, {4294967295, "4294967295"}, {4294967296, "4294967296"},
	{1<<53 + 1, "9007199254740993"}, {9223372036854775807, "9223372036854775807"}, {9223372036854775808, "9223372036854775808"},
	{9223372036854775809, "9223372036854775809"}, {12345678901234567890, "12345678901234567890"}, {18446744073709551609, "18446744073709551609"},
	{18446744073709551614, "18446744073709551614"}, {math.MaxUint64, "18446744073709551615"},
}

func TestUint(t *testing.T) { // P6.1
	check := func(x uint64, want string) {
		t.Helper()
		if s := scalar.ShowUint(x); s != want {
			t.Errorf("ShowUint(%d) = %q", x, s)
		}
		wantUint(t, want, x, true)
	}
	for _, c := range texts {
		check(c.x, c.s)
	}
	for ten, i := uint64(10), 1; i < 20; ten, i = ten*10, i+1 {
		check(ten, "1"+zeros(i))
		check(ten-1, nines(i))
	}
	for _, x := range samples() {
		check(x, new(big.Int).SetUint64(x).String())
	}
}

// noUints is texts that no number has.
var noUints = []string{
	"", "00", "01", "000", "001", "007", "010", "0000000000", "018446744073709551615", "0" + nines(5), zeros(20), zeros(21), zeros(20) + "1", zeros(100),
	"18446744073709551616", "18446744073709551617", "18446744073709551620", "18446744073709551700", "18446744073709552000",
	"18446744073709551625", "18446744073709552615", "19999999999999999999", "20000000000000000000", "28446744073709551615",
	"36893488147419103232", "36893488147419103233", "90000000000000000000", nines(20),
	"1" + zeros(20), "100000000000000000001", "184467440737095516150", "184467440737095516160", nines(21), "1" + zeros(21), nines(25), nines(1000), "1" + zeros(100000),
	"340282366920938463463374607431768211456", "340282366920938463463374607431768211457",
	"+1", "-1", "+0", "-0", "--1", "1-", "1+", "+", "-", "+18446744073709551615",
	" 1", "1 ", " ", "1 2", "\t1", "1\t", "1\n", "\n1", "1\r\n", "\u00a01",
	"_", "_1", "1_", "1_000", "1__0", "0_1", "0_0", "1_", "1,000", "1'000", "1.", "1.0", ".1", "1e3", "1E3", "1e0",
	"/", ":", "/1", "1/", ":1", "1:", "1/2", "1:2", "/:", "10:", "1/0",
	"0x1", "0X1", "0xf", "0b1", "0o7", "0x", "a", "f", "k", "m", "1g", "x1", "1x", "Inf", "NaN", "true", `"1"`,
	"\u0661", "1\u0660", "\u06601", "\u0966", "\uff11", "1\uff10", "\u00b2", "1\u00b2", "\u00bd", "\u2460", "\U0001d7ce", "1\U0001d7d8",
	"\x00", "\x001", "1\x00", "1\x002", "\x80", "\xff", "1\xff", "\xff1", "\xb1", "1\xb0", "\ufffd", "1\ufffd", "\ufeff1",
}

func TestNoUint(t *testing.T) { // P6.1
	for _, s := range noUints {
		wantUint(t, s, 0, false)
	}
	for _, s := range []string{"1k", "1m", "0k", "0m", "12k", "100m", "1000k", "18446744073709m"} { // rates alone
		wantUint(t, s, 0, false)
	}
}

// plainUint is what Uint has to answer, by the chapter's words.
func plainUint(s string) (*big.Int, bool) {
	if s == "" || strings.Trim(s, numbers) != "" || len(s) > 1 && s[0] == '0' {
		return new(big.Int), false
	}
	x, _ := new(big.Int).SetString(s, 10)
	if !x.IsUint64() {
		return new(big.Int), false
	}
	return x, true
}

// plainRate is what Rate has to answer, by the chapter's words.
func plainRate(s string) (*big.Int, bool) {
	count, size := s, int64(1)
	switch {
	case strings.HasSuffix(s, "k"):
		count, size = s[:len(s)-1], 1000
	case strings.HasSuffix(s, "m"):
		count, size = s[:len(s)-1], 1000000
	}
	x, ok := plainUint(count)
	if x.Mul(x, big.NewInt(size)); !ok || !x.IsUint64() {
		return new(big.Int), false
	}
	return x, true
}

// plainIdent is what Ident has to answer, by the chapter's words.
func plainIdent(s string) bool {
	return len(s) >= 1 && len(s) <= 12 && strings.Trim(s, inNames) == "" && strings.Contains(letters, s[:1])
}

// byWords holds what is answered of a text against the chapter's words.
func byWords(t *testing.T, s string) {
	t.Helper()
	x, ok := plainUint(s)
	wantUint(t, s, x.Uint64(), ok)
	x, ok = plainRate(s)
	wantRate(t, s, x.Uint64(), ok)
	wantIdent(t, s, plainIdent(s))
}

// eachText calls a function for each text of at most so many characters.
func eachText(from string, n int, call func(s string)) {
	var each func(s string, n int)
	each = func(s string, n int) {
		call(s)
		if n > 0 {
			for i := range from {
				each(s+from[i:i+1], n-1)
			}
		}
	}
	each("", n)
}

func TestByWords(t *testing.T) { // P6.1, P6.2, P6.3
	for i := range 256 {
		for _, s := range []string{"1", "12k", "0", "3m", "a", "a-1", "999999999999999"} {
			c := string([]byte{byte(i)})
			byWords(t, c+s)
			byWords(t, s+c)
			byWords(t, s+c+s)
			byWords(t, s+c+"k")
		}
	}
	for i := range 256 {
		for j := range 256 {
			byWords(t, string([]byte{byte(i), byte(j)}))
		}
	}
	eachText("019km-a+_ K", 4, func(s string) { byWords(t, s) })
	pick := picker()
	for range 50000 {
		var s strings.Builder
		for range pick() % 24 {
			if pick()%50 > 0 {
				s.WriteByte(numbers[pick()%10])
			} else {
				s.WriteByte("km0a-_ .+KM\x00\xff"[pick()%13])
			}
		}
		byWords(t, s.String())
		byWords(t, s.String()+"k")
		byWords(t, s.String()+"m")
	}
}

func TestExample(t *testing.T) { // P6.2
	wantRate(t, "2k", 2000, true)
	wantRate(t, "2000", 2000, true)
	if s := scalar.ShowRate(2000); s != "2k" {
		t.Errorf("ShowRate(2000) = %q", s)
	}
}

func TestRate(t *testing.T) { // P6.2
	for _, c := range texts { // without a unit
		wantRate(t, c.s, c.x, true)
	}
	for _, c := range []struct {
		s string
		x uint64
	}{
		{"1k", 1000}, {"1m", 1000000}, {"9k", 9000}, {"9m", 9000000}, {"10k", 10000}, {"10m", 10000000}, {"0k", 0}, {"0m", 0},
		{"999k", 999000}, {"1000k", 1000000}, {"1001k", 1001000}, {"1000m", 1000000000}, {"1500m", 1500000000}, {"5000000k", 5000000000},
		// the greatest ones
		{"18446744073709551k", 18446744073709551000}, {"18446744073709550k", 18446744073709550000}, {"18446744073709549k", 18446744073709549000},
		{"18446744073709m", 18446744073709000000}, {"18446744073708m", 18446744073708000000}, {"18446744073699m", 18446744073699000000},
		{"9223372036854775k", 9223372036854775000}, {"9223372036854776k", 9223372036854776000}, {"9223372036855m", 9223372036855000000},
		{"10000000000000000k", 10000000000000000000}, {"10000000000000m", 10000000000000000000},
	} {
		wantRate(t, c.s, c.x, true)
	}
}

func TestNoRate(t *testing.T) { // P6.2
	for _, s := range noUints {
		wantRate(t, s, 0, false)
		wantRate(t, s+"k", 0, false)
		wantRate(t, s+"m", 0, false)
	}
	for _, s := range []string{
		"k", "m", "km", "mk", "kk", "mm", "1km", "1kk", "1mk", "1mm", "0km", "0kk", "k1", "m1", "1k1", "1k0", "1m1", "k1k", "m1m", "1k1k", "1k000",
		"1K", "1M", "K", "M", "0K", "0M", "1Km", "1Mk", "1kK", "1mM", "1g", "1G", "1b", "1kb", "1kB", "1h", "1u", "1j", "1l", "1n", "1t", "1\u212a", "1\uff4b",
		"00k", "00m", "01k", "01m", "007k", "0001m", "000k", "010k", "001", "0000",
		"1 k", "1k ", " 1k", "1 m", "1m ", "1k\n", "1k\x00", "1\x00k", "+1k", "-1k", "-1m", "-0k", "+0m", "1_000k", "1.5k", "1.5m", "1e3k", "0x1k", "1/k", "1:m", ".k",
		// the first ones that are too great, and much greater ones
		"18446744073709552k", "18446744073709553k", "18446744073709560k", "18446744073709600k", "20000000000000000k", "99999999999999999k",
		"18446744073710m", "18446744073711m", "18446744073720m", "18446744073800m", "20000000000000m", "99999999999999m",
		"18446744073709551m", "18446744073709552m", "36893488147419104k", "36893488147420m",
		"2305843009213693952k", "2305843009213693953k", "4611686018427387904k", "288230376151711744m", "288230376151711745m", "576460752303423488m",
		"9223372036854775808k", "9223372036854775808m", "9223372036854775809k", "10000000000000000000k", "10000000000000000000m",
		"18446744073709551614k", "18446744073709551614m", "18446744073709551615k", "18446744073709551615m",
		"18446744073709551616k", "18446744073709551616m", "18446744073709551617k", "18446744073709551617m", "184467440737095516160k",
		nines(20) + "k", nines(21) + "m", nines(1000) + "k", "1" + zeros(1000) + "m",
	} {
		wantRate(t, s, 0, false)
	}
}

func TestShowRate(t *testing.T) { // P6.2
	for _, c := range []struct {
		x    uint64
		want string
	}{
		{0, "0"},
		{1, "1"}, {9, "9"}, {10, "10"}, {100, "100"}, {500, "500"}, {999, "999"}, {1001, "1001"}, {1010, "1010"}, {1100, "1100"}, {1999, "1999"}, {1500100, "1500100"},
		{1000, "1k"}, {2000, "2k"}, {10000, "10k"}, {100000, "100k"}, {500000, "500k"}, {999000, "999k"}, {1001000, "1001k"}, {1100000, "1100k"}, {1500000, "1500k"}, {1999000, "1999k"},
		{1000000, "1m"}, {2000000, "2m"}, {10000000, "10m"}, {100000000, "100m"}, {1000000000, "1000m"}, {1000000000000, "1000000m"}, {1001000000, "1001m"}, {12000000, "12m"},
		{999999, "999999"}, {1000001, "1000001"}, {1000010, "1000010"}, {1000100, "1000100"}, {1000999, "1000999"}, {1999999, "1999999"}, {10000001, "10000001"},
		{1 << 20, "1048576"}, {1 << 32, "4294967296"}, {1 << 63, "9223372036854775808"}, {1 << 63 / 1000 * 1000, "9223372036854775k"},
		{1000000 << 40, "1099511627776m"}, {1000 << 50, "1125899906842624k"},
		{18446744073709551000, "18446744073709551k"}, {18446744073709550000, "18446744073709550k"}, {18446744073709000000, "18446744073709m"},
		{10000000000000000000, "10000000000000m"}, {18446744073709551001, "18446744073709551001"}, {18446744073709551600, "18446744073709551600"},
		{math.MaxUint64 - 1, "18446744073709551614"}, {math.MaxUint64, "18446744073709551615"},
	} {
		if s := scalar.ShowRate(c.x); s != c.want {
			t.Errorf("ShowRate(%d) = %q, want %q", c.x, s, c.want)
		}
	}
}

func TestShowRateByWords(t *testing.T) { // P6.2
	for _, x := range samples() {
		s, want := scalar.ShowRate(x), new(big.Int).SetUint64(x).String()
		switch {
		case x == 0:
		case strings.HasSuffix(want, zeros(6)):
			want = want[:len(want)-6] + "m"
		case strings.HasSuffix(want, zeros(3)):
			want = want[:len(want)-3] + "k"
		}
		if s != want {
			t.Errorf("ShowRate(%d) = %q, want %q", x, s, want)
		}
	}
}

func TestPrintedIsRead(t *testing.T) { // P6.4
	for _, x := range samples() {
		wantUint(t, scalar.ShowUint(x), x, true)
		wantRate(t, scalar.ShowUint(x), x, true)
		wantRate(t, scalar.ShowRate(x), x, true)
	}
}

func TestNoTextOfRateIsShorter(t *testing.T) { // P6.4
	shortest := func(s string) {
		t.Helper()
		x, ok := scalar.Rate(s)
		if printed := scalar.ShowRate(x); ok && len(printed) > len(s) {
			t.Errorf("ShowRate(%d) = %q, which %q is shorter than", x, printed, s)
		}
	}
	rates := 0
	eachText(numbers+"km", 5, func(s string) {
		if _, ok := scalar.Rate(s); ok {
			rates++
		}
		shortest(s)
	})
	// Of n characters, 9*10^(n-1) numbers without a unit but for 0, and with each of the two units those of n-1 and 0k, 0m.
	if want := 1 + 99999 + 2*(1+9999); rates != want {
		t.Errorf("%d rates of at most five characters, want %d", rates, want)
	}
	for _, x := range samples() {
		// All texts that the rate may have.
		all := []string{scalar.ShowUint(x)}
		if x%1000 == 0 {
			all = append(all, scalar.ShowUint(x/1000)+"k")
		}
		if x%1000000 == 0 {
			all = append(all, scalar.ShowUint(x/1000000)+"m")
		}
		for _, s := range all {
			wantRate(t, s, x, true)
			shortest(s)
		}
		if s := scalar.ShowRate(x); !slices.Contains(all, s) {
			t.Errorf("ShowRate(%d) = %q", x, s)
		}
	}
}

func TestIdent(t *testing.T) { // P6.3
	if api.MaxName != 12 {
		t.Fatalf("MaxName is %d", api.MaxName)
	}
	for _, s := range []string{
		"a", "z", "m", "be", "gold", "a0", "a9", "z5", "a-", "a-b", "a--b", "a-1", "a1-", "a--", "x123", "k", "true", "b-1-5",
		"abcdefghijkl", "mnopqrstuvwx", "z00000000000", "a-----------", "a9a9a9a9a9a9", "a-0-9-z-0-9-",
	} {
		wantIdent(t, s, true)
	}
	for _, s := range []string{
		"", "0", "9", "-", "--", "1a", "9z", "0a", "-a", "-1", "12", "007", "-abc", "1abcdefghijk", "-abcdefghijk",
		"abcdefghijklm", "a123456789012", "a------------", "-abcdefghijkl", "abcdefghijkl ", "abcdefghijkl\x00", "abcdefghijkl\xff",
		"A", "Z", "aA", "Ab", "aZ", "ABC", "abC", "_", "_a", "a_", "a_b", ".", "a.", ".a", "a.b", " ", " a", "a ", "a b", "\t", "a\t", "a\n", "\na",
		"\x00", "\x00a", "a\x00", "a\x00b", "\x80", "a\x80", "\xff", "\xffa", "a\xff", "\xe1", "a\xe1", "a\xb0", "a\xad",
		"é", "aé", "éa", "ß", "ａ", "aａ", "a\u0661", "a\u2010", "a\u00ad", "a\u2212", "\u0430", "a\u0301", "a\u0130", "a\u212a", "a\ufffd", "😀", "a\u0161b",
		"`", "{", "a`", "a{", "/", ":", "a/", "a:", "a,", "a+", "a'", `a"`, `"a"`, "a/b", "@", "[", "a@", "a[", "a;", "a#", `a\`, "a\x7f",
	} {
		wantIdent(t, s, false)
	}
	// However long it is: no length may turn into one that may be.
	for _, n := range []int{13, 14, 24, 255, 256, 257, 258, 267, 268, 65536, 65537, 65547, 1 << 20} {
		wantIdent(t, strings.Repeat("a", n), false)
	}
}

func TestIdentCharacters(t *testing.T) { // P6.3
	for i := range 256 {
		c := string([]byte{byte(i)})
		first, later := strings.Contains(letters, c), strings.Contains(inNames, c)
		wantIdent(t, c, first)
		wantIdent(t, c+"a", first)
		wantIdent(t, c+"0-9abcdefg", first)
		wantIdent(t, c+"0-9abcdefgh", first)
		wantIdent(t, c+"0-9abcdefghi", false)
		for n := 2; n <= 14; n++ {
			for place := 1; place < n; place++ {
				s := strings.Repeat("b", place) + c + strings.Repeat("y", n-place-1)
				wantIdent(t, s, later && n <= 12)
			}
		}
	}
	for n := range 15 {
		for _, c := range []string{"a", "z", "m"} {
			wantIdent(t, strings.Repeat(c, n), 1 <= n && n <= 12)
		}
	}
}
