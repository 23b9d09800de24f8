package token_test

import (
	"fmt"
	"math"
	"math/big"
	"regexp"
	"slices"
	"strconv"
	"strings"
	"testing"

	"lambrequin/api"
	"lambrequin/token"
	"lambrequin/value"
)

const (
	smalls  = "abcdefghijklmnopqrstuvwxyz"
	greats  = "ABCDEFGHIJKLMNOPQRSTUVWXYZ"
	figures = "0123456789"
)

func name(s string, at int) api.Token { return api.Token{Kind: 1, S: s, At: at} }

func quoted(s string, at int) api.Token { return api.Token{Kind: 1, S: s, Quoted: true, At: at} }

func variable(s string, at int) api.Token { return api.Token{Kind: 2, S: s, At: at} }

func number(n int64, at int) api.Token { return api.Token{Kind: 3, N: n, At: at} }

func mark(s string, at int) api.Token { return api.Token{Kind: 4, S: s, At: at} }

func wantScan(t *testing.T, s string, want ...api.Token) {
	t.Helper()
	got, at, e := token.Scan(s)
	if e != api.OK || at != 0 || !slices.Equal(got, want) {
		t.Errorf("Scan(%.80q): %+v, %d, %d, want %+v", s, got, at, e, want)
	}
}

func wantError(t *testing.T, s string, at int, errno api.Errno) {
	t.Helper()
	got, place, e := token.Scan(s)
	if e != errno || place != at || len(got) != 0 {
		t.Errorf("Scan(%.80q): %+v, %d, %d, want no tokens, %d, %d", s, got, place, e, at, errno)
	}
}

func wantJoin(t *testing.T, want string, l ...api.Token) {
	t.Helper()
	if got := token.Join(l); got != want {
		t.Errorf("Join(%+v): %q, want %q", l, got, want)
	}
}

// bytesButFor are all bytes, each as a text, but for some.
func bytesButFor(but string) []string {
	var l []string
	for b := range 256 {
		if strings.IndexByte(but, byte(b)) < 0 {
			l = append(l, string([]byte{byte(b)}))
		}
	}
	return l
}

func marksOf() []string {
	return []string{":-", "<=", ">=", "!=", "(", ")", ",", ".", "/", "<", ">", "="}
}

func TestP51NothingButBlanksAndRemarks(t *testing.T) {
	for _, s := range []string{"", " ", "\t", "\n", "\r", "\t\n\r \r\n", "%", "%%", "% p.", "%\n", "% a\n% b", " % a\n\n \t% b\n\r ", "%'", "%\xff\x00!\r!", strings.Repeat("%\n", 32768)} {
		wantScan(t, s)
	}
}

func TestP51BlanksBetween(t *testing.T) {
	for _, blank := range []string{"\t", "\n", "\r", " ", "%\n", "%x'!\n", " %\r!\n\t", "%%%\n%\n\n"} {
		wantScan(t, blank+"p"+blank+"q"+blank, name("p", len(blank)), name("q", 2*len(blank)+1))
	}
	// A remark ends at the byte 10 alone, or at the end.
	wantScan(t, "p%q\rr\x00\x0b\n\rs%t", name("p", 0), name("s", 9))
	wantScan(t, "p%q\r\nr", name("p", 0), name("r", 5))
	wantScan(t, "p%", name("p", 0))
	wantScan(t, "p%q", name("p", 0))
	wantScan(t, "1%\n2", number(1, 0), number(2, 3))
	wantError(t, ":%\n-", 0, api.ErrForm)
	wantError(t, "-%\n2", 0, api.ErrForm)
}

func TestP51TextsOfTheMostBytes(t *testing.T) {
	for _, s := range []string{" ", "\n", "%", "%!"} {
		most := strings.Repeat(s, 65536)[:65536]
		if s == "%!" {
			most = "%" + strings.Repeat("!", 65535)
		}
		wantScan(t, most)
		wantError(t, most+"\n", 0, api.ErrFull)
	}
	l, at, e := token.Scan(strings.Repeat(".", 65536))
	if len(l) != 65536 || at != 0 || e != api.OK {
		t.Error(len(l), at, e)
	}
	for i, x := range l {
		if x != mark(".", i) {
			t.Fatal(i, x)
		}
	}
	// The text's length is asked ahead of all that stands in it.
	for _, s := range []string{"!", "p!", "'", "9999999999999999999 ", strings.Repeat("a", 33) + " "} {
		at := max(0, strings.IndexByte(s, '!'))
		_, _, e := token.Scan(s)
		long := s + strings.Repeat(" ", 65536-len(s))
		wantError(t, long, at, e)
		wantError(t, long+" ", 0, api.ErrFull)
	}
	s := strings.Repeat("x", 65534)
	wantScan(t, "'"+s+"'", quoted(s, 0))
	wantError(t, "'x"+s+"'", 0, api.ErrFull)
	wantScan(t, strings.Repeat("0", 65535)+"7", number(7, 0))
	wantError(t, strings.Repeat(" ", 65535)+"!", 65535, api.ErrForm)
}

func TestP51NamesAndVariables(t *testing.T) {
	for i := range 26 {
		wantScan(t, smalls[i:i+1], name(smalls[i:i+1], 0))
		wantScan(t, greats[i:i+1], variable(greats[i:i+1], 0))
	}
	inner := smalls + greats + figures + "_"
	for i := range len(inner) {
		s := inner[i : i+1]
		wantScan(t, "a"+s, name("a"+s, 0))
		wantScan(t, "A"+s, variable("A"+s, 0))
		wantScan(t, " z"+s+"Z_ "+"Z"+s+"z", name("z"+s+"Z_", 1), variable("Z"+s+"z", 6))
	}
	for _, s := range bytesButFor(inner + "'!:%-\t\n\r (),./<>=") {
		wantError(t, "ab"+s, 2, api.ErrForm)
		wantError(t, "AB"+s+"c", 2, api.ErrForm)
	}
	wantScan(t, "not Not nOT", name("not", 0), variable("Not", 4), name("nOT", 8))
	wantScan(t, "x1y 1x X-1", name("x1y", 0), number(1, 4), name("x", 5), variable("X", 7), number(-1, 8))
	wantScan(t, "a'b'c", name("a", 0), quoted("b", 1), name("c", 4))
	wantError(t, "_a", 0, api.ErrForm)
	wantError(t, "_", 0, api.ErrForm)
	wantError(t, "a \u00e9", 2, api.ErrForm)
	wantError(t, "a\u00e9", 1, api.ErrForm)
}

func TestP51NamesOfTheMostBytes(t *testing.T) {
	for _, s := range []string{strings.Repeat("a", 32), "a" + strings.Repeat("_", 31), "zZ9_zZ9_zZ9_zZ9_zZ9_zZ9_zZ9_zZ9_"} {
		great := strings.ToUpper(s[:1]) + s[1:]
		wantScan(t, s, name(s, 0))
		wantScan(t, great, variable(great, 0))
		wantScan(t, " "+s+"."+great+" ", name(s, 1), mark(".", 33), variable(great, 34))
		wantScan(t, "'"+s+"x'", quoted(s+"x", 0))
		wantScan(t, "'"+great+"x'", quoted(great+"x", 0))
		for _, more := range []string{"a", "Z", "0", "_", strings.Repeat("b", 1000)} {
			wantError(t, s+more, 0, api.ErrFull)
			wantError(t, great+more, 0, api.ErrFull)
			wantError(t, "p( "+s+more+" !", 3, api.ErrFull)
			wantError(t, "p( "+great+more+" '", 3, api.ErrFull)
		}
	}
}

func TestP51QuotedNames(t *testing.T) {
	wantScan(t, "''", quoted("", 0))
	wantScan(t, " '' '''' ", quoted("", 1), quoted("", 4), quoted("", 6))
	wantScan(t, "'a''b'", quoted("a", 0), quoted("b", 3))
	for _, s := range bytesButFor("'\\\n") {
		wantScan(t, "'"+s+"'", quoted(s, 0))
		wantScan(t, ".'a"+s+"b'.", mark(".", 0), quoted("a"+s+"b", 1), mark(".", 6))
	}
	for _, s := range []string{"a", "not", "A", "12", "a b", "% no remark", ":-", "\u00e9", strings.Repeat("long ", 100)} {
		wantScan(t, "'"+s+"'x", quoted(s, 0), name("x", len(s)+2))
	}
	wantScan(t, `'\n'`, quoted("\n", 0))
	wantScan(t, `'\\'`, quoted(`\`, 0))
	wantScan(t, `'\''`, quoted(`'`, 0))
	wantScan(t, `'\\n'`, quoted(`\n`, 0))
	wantScan(t, `'\\\n\'\\' p`, quoted("\\\n'\\", 0), name("p", 11))
	wantScan(t, `'a\nb\'c\\d'`, quoted("a\nb'c\\d", 0))
}

func TestP51QuotedNamesThatAreNone(t *testing.T) {
	for _, s := range bytesButFor(`n\'`) {
		wantError(t, `'\`+s+`'`, 0, api.ErrForm)
		wantError(t, `p 'a\`+s, 2, api.ErrForm)
		wantError(t, `p 'a\`+s+`b' q`, 2, api.ErrForm)
	}
	for _, s := range []string{"'", "'a", "'a b.", `'\`, `'\'`, `'\\\'`, `'\n`, "'\n", "'\n'", "'a\nb'", "'a\r\n'", "'% \n'", "'\\\n'"} {
		wantError(t, s, 0, api.ErrForm)
		wantError(t, "q(X,"+s, 4, api.ErrForm)
		wantError(t, "'' "+s, 3, api.ErrForm)
	}
	wantError(t, "'a'b'", 4, api.ErrForm)
	wantError(t, "'''", 2, api.ErrForm)
}

func TestP51Numbers(t *testing.T) {
	for s, n := range map[string]int64{"0": 0, "-0": 0, "7": 7, "-7": -7, "9": 9, "12": 12, "1234567890": 1234567890, "-1234567890": -1234567890, "007": 7, "-007": -7, "000": 0,
		"9223372036854775806": math.MaxInt64 - 1, "9223372036854775807": math.MaxInt64, "0009223372036854775807": math.MaxInt64, "-9223372036854775807": -math.MaxInt64, "-9223372036854775808": math.MinInt64, "-0009223372036854775808": math.MinInt64} {
		wantScan(t, s, number(n, 0))
		wantScan(t, "("+s+")", mark("(", 0), number(n, 1), mark(")", 1+len(s)))
		wantScan(t, "3 "+s+"x", number(3, 0), number(n, 2), name("x", 2+len(s)))
	}
	for _, s := range []string{"9223372036854775808", "-9223372036854775809", "9223372036854775810", "18446744073709551616", "18446744073709551617", "-18446744073709551615", strings.Repeat("9", 19), "-" + strings.Repeat("9", 1000), "1" + strings.Repeat("0", 19)} {
		wantError(t, s, 0, api.ErrRange)
		wantError(t, "p( "+s+" )", 3, api.ErrRange)
		wantError(t, "1 "+s+"!", 2, api.ErrRange)
		wantError(t, ":-"+s+"'", 2, api.ErrRange)
	}
	wantScan(t, "5-3-2", number(5, 0), number(-3, 1), number(-2, 3))
	wantScan(t, "1.5", number(1, 0), mark(".", 1), number(5, 2))
	wantScan(t, "1,-2", number(1, 0), mark(",", 1), number(-2, 2))
	wantScan(t, "0x1F", number(0, 0), name("x1F", 1))
	wantScan(t, "1e9", number(1, 0), name("e9", 1))
	wantError(t, "1_000", 1, api.ErrForm)
	wantError(t, "+1", 0, api.ErrForm)
}

func TestP51HyphensWithoutFigures(t *testing.T) {
	for _, s := range []string{"-", "--1", "- 1", "-\n1", "-a", "-X", "-'1'", "-_1", "-.5", "-%\n1", "->"} {
		wantError(t, s, 0, api.ErrForm)
		wantError(t, "p "+s, 2, api.ErrForm)
		wantError(t, "1"+s, 1, api.ErrForm)
	}
	for _, s := range bytesButFor(figures) {
		wantError(t, "-"+s+"1", 0, api.ErrForm)
	}
	wantError(t, ":--", 2, api.ErrForm)
}

func TestP51Marks(t *testing.T) {
	for _, m := range marksOf() {
		wantScan(t, m, mark(m, 0))
		wantScan(t, "p"+m+" X", name("p", 0), mark(m, 1), variable("X", 2+len(m)))
		for _, k := range marksOf() {
			wantScan(t, m+" "+k, mark(m, 0), mark(k, len(m)+1))
			if k != "=" || m != "<" && m != ">" {
				wantScan(t, m+k, mark(m, 0), mark(k, len(m)))
			}
		}
	}
	wantScan(t, "<==", mark("<=", 0), mark("=", 2))
	wantScan(t, ">==", mark(">=", 0), mark("=", 2))
	wantScan(t, "!==", mark("!=", 0), mark("=", 2))
	wantScan(t, "===", mark("=", 0), mark("=", 1), mark("=", 2))
	wantScan(t, "=<", mark("=", 0), mark("<", 1))
	wantScan(t, "=>=", mark("=", 0), mark(">=", 1))
	wantScan(t, "<>", mark("<", 0), mark(">", 1))
	wantScan(t, "< =", mark("<", 0), mark("=", 2))
	wantScan(t, "<:->", mark("<", 0), mark(":-", 1), mark(">", 3))
	wantScan(t, ":-5", mark(":-", 0), number(5, 2))
	wantScan(t, ":--5", mark(":-", 0), number(-5, 2))
	wantScan(t, "<-5", mark("<", 0), number(-5, 1))
	wantScan(t, "p/2.", name("p", 0), mark("/", 1), number(2, 2), mark(".", 3))
	for _, s := range []string{":", "!", ": -", "! =", ":=", "::-", "!!=", ":a", "!a", "!-", ":%", "!("} {
		wantError(t, s, 0, api.ErrForm)
		wantError(t, "<"+s, 1, api.ErrForm)
		wantError(t, "="+s, 1, api.ErrForm)
	}
}

func TestP51BytesOfNoToken(t *testing.T) {
	first := smalls + greats + figures + "'%\t\n\r (),./<>="
	for _, s := range bytesButFor(first) {
		wantError(t, s, 0, api.ErrForm)
		wantError(t, s+" ", 0, api.ErrForm)
		wantError(t, "p(X). "+s, 6, api.ErrForm)
		wantError(t, "p % "+s+"\n\t"+s+" q", 7, api.ErrForm)
		wantScan(t, "p % "+s, name("p", 0))
	}
}

func TestP51TheFirstTokenThatIsNoneIsTold(t *testing.T) {
	long := strings.Repeat("v", 33)
	great := "9223372036854775808"
	wantError(t, "a ! "+great+" "+long, 2, api.ErrForm)
	wantError(t, "a "+great+" ! "+long, 2, api.ErrRange)
	wantError(t, "a "+long+" ! "+great, 2, api.ErrFull)
	wantError(t, "a 'b\n' "+great+" "+long, 2, api.ErrForm)
	wantError(t, "%!\n 'ok' V"+long+"\n!", 9, api.ErrFull)
	wantError(t, "\n\n\n  x\n  !", 9, api.ErrForm)
}

func TestP51WholeTexts(t *testing.T) {
	wantScan(t, "p(X, 12).", name("p", 0), mark("(", 1), variable("X", 2), mark(",", 3), number(12, 5), mark(")", 7), mark(".", 8))
	wantScan(t, "e/2.\np(X) :- q(X, 'A b'), not r(X), X<-3. % end",
		name("e", 0), mark("/", 1), number(2, 2), mark(".", 3), name("p", 5), mark("(", 6), variable("X", 7), mark(")", 8), mark(":-", 10), name("q", 13), mark("(", 14), variable("X", 15), mark(",", 16), quoted("A b", 18), mark(")", 23), mark(",", 24),
		name("not", 26), name("r", 30), mark("(", 31), variable("X", 32), mark(")", 33), mark(",", 34), variable("X", 36), mark("<", 37), number(-3, 38), mark(".", 40))
}

func TestP51AnswersAreTheCallersOwn(t *testing.T) {
	s := "p(X, 'q')."
	first, _, _ := token.Scan(s)
	kept := slices.Clone(first)
	for i := range first {
		first[i] = api.Token{Kind: 9, S: "z", N: 9, At: 9}
	}
	wantScan(t, s, kept...)
}

func TestP52Join(t *testing.T) {
	wantJoin(t, "")
	wantJoin(t, "", []api.Token{}...)
	wantJoin(t, "p ( X , 12 ) . ", name("p", 0), mark("(", 1), variable("X", 2), mark(",", 3), number(12, 5), mark(")", 7), mark(".", 8))
}

func TestP52Names(t *testing.T) {
	for _, s := range []string{"a", "z", "aB9_", "not", "nott", "nOT", strings.Repeat("a", 32), strings.Repeat("a", 33), strings.Repeat("b", 70000)} {
		wantJoin(t, s+" ", name(s, 0))
		wantJoin(t, "'"+s+"' ", quoted(s, 0))
	}
	for _, s := range []string{"", "A", "X1", "_", "_a", "1", "-1", "12a", "a b", "a.", "a-b", "a\x00", "\u00e9", "a\u00e9", "\xff", " a", "a ", "Not", "not ", "a\r", "a\t", "%", "\"", "a" + strings.Repeat(" ", 40)} {
		wantJoin(t, "'"+s+"' ", name(s, 0))
		wantJoin(t, "'"+s+"' ", quoted(s, 0))
	}
	for s, text := range map[string]string{"\n": `'\n'`, `\`: `'\\'`, "'": `'\''`, "a\nb": `'a\nb'`, `\n`: `'\\n'`, "''": `'\'\''`, "\\\n'": `'\\\n\''`, "it's": `'it\'s'`} {
		wantJoin(t, text+" ", name(s, 0))
		wantJoin(t, text+" ", quoted(s, 0))
	}
	for _, s := range bytesButFor("'\\\n" + smalls) {
		wantJoin(t, "'"+s+"' ", name(s, 0))
	}
}

func TestP52OtherKinds(t *testing.T) {
	for _, s := range []string{"", "X", "a", "not", "a b", "'", "\\", "\n", ":-", "%", "\xff", strings.Repeat("X", 33)} {
		wantJoin(t, s+" ", variable(s, 0))
		wantJoin(t, s+" ", mark(s, 0))
	}
	for _, n := range []int64{0, 1, -1, 12, -12, math.MaxInt64, math.MinInt64} {
		wantJoin(t, strconv.FormatInt(n, 10)+" ", number(n, 0))
	}
	for _, kind := range []int{0, 5, 9, -1, -4, math.MaxInt, math.MinInt} {
		wantJoin(t, " ", api.Token{Kind: kind})
		wantJoin(t, " ", api.Token{Kind: kind, S: "a", N: 3, Quoted: true, At: 4})
		wantJoin(t, "a  b ", name("a", 0), api.Token{Kind: kind, S: "x"}, name("b", 0))
	}
}

func TestP52WhatElseATokenHoldsPlaysNoPart(t *testing.T) {
	for _, at := range []int{0, 7, -1, math.MaxInt, math.MinInt} {
		for _, n := range []int64{0, 5, math.MinInt64} {
			wantJoin(t, "a ", api.Token{Kind: 1, S: "a", N: n, At: at})
			wantJoin(t, "'a' ", api.Token{Kind: 1, S: "a", N: n, Quoted: true, At: at})
			for _, marked := range []bool{false, true} {
				wantJoin(t, "X ", api.Token{Kind: 2, S: "X", N: n, Quoted: marked, At: at})
				wantJoin(t, "( ", api.Token{Kind: 4, S: "(", N: n, Quoted: marked, At: at})
				wantJoin(t, strconv.FormatInt(n, 10)+" ", api.Token{Kind: 3, S: "X", N: n, Quoted: marked, At: at})
			}
		}
	}
}

func TestP52WhatIsHandedInStays(t *testing.T) {
	l := []api.Token{name("A", 3), quoted("b", 4), {Kind: 9, S: "x"}, number(3, 1)}
	kept := slices.Clone(l)
	token.Join(l)
	if !slices.Equal(l, kept) {
		t.Errorf("%+v, want %+v", l, kept)
	}
}

// unplaced are tokens but for At.
func unplaced(l []api.Token) []api.Token {
	l = slices.Clone(l)
	for i := range l {
		l[i].At = 0
	}
	return l
}

// wantBack scans, joins and scans again; what is joined may be too long a text.
func wantBack(t *testing.T, s string) {
	t.Helper()
	first, _, e := token.Scan(s)
	if e != api.OK {
		return
	}
	joined := token.Join(first)
	again, at, e := token.Scan(joined)
	if len(joined) > api.MaxText {
		if len(again) != 0 || at != 0 || e != api.ErrFull {
			t.Errorf("Scan(%.80q): %d tokens, %d, %d", joined, len(again), at, e)
		}
		return
	}
	if e != api.OK || at != 0 || !slices.Equal(unplaced(again), unplaced(first)) {
		t.Errorf("%q, joined %q: %+v, %d, %d, want %+v", s, joined, again, at, e, first)
	}
	if text := token.Join(again); text != joined {
		t.Errorf("%q: joined %q, then %q", s, joined, text)
	}
}

func TestP53Back(t *testing.T) {
	for _, s := range []string{"", "p(X, 12).", "e/2. p:-not q, X!=-3, 'not'<='A b'. % end", "''''", `'\n\\\'\\n'`, "007 -0 5-3", ":--1", "not'not'not", "a'a'A'A'", "1a", "<=<==>=!==", "'% p'%p\n'p'", strings.Repeat("a", 32) + "'" + strings.Repeat("a", 33) + "'", "-9223372036854775808 9223372036854775807"} {
		if _, at, e := token.Scan(s); e != api.OK {
			t.Errorf("Scan(%q): %d, %d", s, at, e)
		}
		wantBack(t, s)
	}
	for _, s := range bytesButFor("\n") {
		wantBack(t, "'"+s+"'")
		wantBack(t, "'a"+s+"b'")
	}
	for _, s := range []string{"'a'", "a", "not", "'not'", `'\n'`} {
		if l, _, _ := token.Scan(s); token.Join(l) != s+" " {
			t.Errorf("%q, joined %q", s, token.Join(l))
		}
	}
	wantBack(t, strings.Repeat("(", 32768))
	wantBack(t, strings.Repeat("(", 32769))
}

var (
	passedOver = regexp.MustCompile(`^(?:[\t\n\r ]|%[^\n]*)*`)
	oneToken   = regexp.MustCompile(`^(?:([a-z][a-zA-Z0-9_]*)|([A-Z][a-zA-Z0-9_]*)|('(?:[^'\\\n]|\\[n\\'])*')|(-?[0-9]+)|(:-|<=|>=|!=|[(),./<>=]))`)
)

// plainToken is the token that a pattern finds ahead of a text, and its length.
func plainToken(s string) (api.Token, int, api.Errno) {
	m := oneToken.FindStringSubmatch(s)
	switch {
	case m == nil:
		return api.Token{}, 0, api.ErrForm
	case len(m[1]) > 32 || len(m[2]) > 32:
		return api.Token{}, 0, api.ErrFull
	case m[1] != "":
		return name(m[1], 0), len(m[0]), api.OK
	case m[2] != "":
		return variable(m[2], 0), len(m[0]), api.OK
	case m[3] != "":
		back := strings.NewReplacer(`\n`, "\n", `\\`, `\`, `\'`, `'`)
		return quoted(back.Replace(m[3][1:len(m[3])-1]), 0), len(m[0]), api.OK
	case m[5] != "":
		return mark(m[5], 0), len(m[0]), api.OK
	}
	n, _ := new(big.Int).SetString(m[4], 10)
	if !n.IsInt64() {
		return api.Token{}, 0, api.ErrRange
	}
	return number(n.Int64(), 0), len(m[0]), api.OK
}

// wantPlain holds Scan against patterns.
func wantPlain(t *testing.T, s string) {
	t.Helper()
	var want []api.Token
	at := len(passedOver.FindString(s))
	for at < len(s) {
		x, length, e := plainToken(s[at:])
		if e != api.OK {
			wantError(t, s, at, e)
			return
		}
		x.At = at
		want = append(want, x)
		at += length
		at += len(passedOver.FindString(s[at:]))
	}
	wantScan(t, s, want...)
}

func TestP51AndP53AllShortTexts(t *testing.T) {
	pieces := []string{"a", "Z", "0", "-", "_", "'", `\`, "n", " ", "\n", "%", ":", "=", "<", "!", "."}
	texts := []string{""}
	for range 4 {
		var next []string
		for _, s := range texts {
			for _, p := range pieces {
				next = append(next, s+p)
				wantPlain(t, s+p)
				wantBack(t, s+p)
			}
		}
		texts = next
	}
}

// FuzzScan holds Scan against patterns, and scans again what is joined.
func FuzzScan(f *testing.F) {
	for _, s := range []string{"", "p(X, 12).", "p :- 'a\\n\\'', -3 <= X. % x\n", "x 9223372036854775808", "'a", "a\xff"} {
		f.Add(s)
	}
	f.Fuzz(func(t *testing.T, s string) {
		if len(s) > api.MaxText {
			wantError(t, s, 0, api.ErrFull)
			return
		}
		wantPlain(t, s)
		wantBack(t, s)
	})
}

// FuzzJoin joins any token: it is nothing but its own text, and that is scanned as it was, if Scan can tell such a one.
func FuzzJoin(f *testing.F) {
	f.Add(1, "a", int64(0), true)
	f.Add(1, "a'\\\n", int64(0), false)
	f.Add(3, "", int64(-5), false)
	f.Fuzz(func(t *testing.T, kind int, s string, n int64, marked bool) {
		text := token.Join([]api.Token{{Kind: kind, S: s, N: n, Quoted: marked}})
		if two := token.Join([]api.Token{{Kind: kind, S: s, N: n, Quoted: marked, At: 9}, {Kind: 9}}); two != text+" " {
			t.Errorf("%q, want %q and a blank", two, text)
		}
		if kind != api.TokName || len(text) > api.MaxText {
			return
		}
		if value.Plain(s) && !marked && len(s) > api.MaxName {
			wantError(t, text, 0, api.ErrFull)
			return
		}
		want := api.Token{Kind: 1, S: s, Quoted: marked || !value.Plain(s) && s != "not"}
		wantScan(t, text, want)
	})
}

func ExampleScan() {
	l, at, e := token.Scan("p(X,12).")
	fmt.Println(len(l), token.Join(l[:4]), at, e)
	_, at, e = token.Scan("p(X, !).")
	fmt.Println(at, e == api.ErrForm)
	// Output:
	// 7 p ( X ,  0 0
	// 5 true
}
