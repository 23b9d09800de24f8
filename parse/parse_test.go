package parse_test

import (
	"reflect"
	"regexp"
	"slices"
	"sort"
	"strconv"
	"strings"
	"testing"

	"lambrequin/api"
	"lambrequin/parse"
	"lambrequin/token"
	"lambrequin/value"
)

func operators() []string { return []string{"=", "!=", "<", "<=", ">", ">="} }

func variable(s string) api.Term { return api.Term{IsVar: true, Name: s} }

func symbol(s string) api.Term { return api.Term{Val: api.Value{IsSym: true, Sym: s}} }

func number(n int64) api.Term { return api.Term{Val: api.Value{N: n}} }

func atom(pred string, args ...api.Term) api.Atom { return api.Atom{Pred: pred, Args: args} }

func pos(pred string, args ...api.Term) api.Literal {
	return api.Literal{Kind: 1, Atom: atom(pred, args...)}
}

func neg(pred string, args ...api.Term) api.Literal {
	return api.Literal{Kind: 2, Atom: atom(pred, args...)}
}

func comparison(l api.Term, op string, r api.Term) api.Literal {
	return api.Literal{Kind: 3, Op: op, L: l, R: r}
}

func rule(head api.Atom, body ...api.Literal) api.Rule { return api.Rule{Head: head, Body: body} }

func rules(l ...api.Rule) api.Program { return api.Program{Rules: l} }

func decls(l ...api.Decl) api.Program { return api.Program{Decls: l} }

func sameAtom(a, b api.Atom) bool {
	return a.Pred == b.Pred && slices.Equal(a.Args, b.Args)
}

func sameLiteral(a, b api.Literal) bool {
	return a.Kind == b.Kind && sameAtom(a.Atom, b.Atom) && a.Op == b.Op && a.L == b.L && a.R == b.R
}

func sameRule(a, b api.Rule) bool {
	return sameAtom(a.Head, b.Head) && slices.EqualFunc(a.Body, b.Body, sameLiteral)
}

// same holds nil and empty lists for the same, and no fields apart from that.
func same(a, b api.Program) bool {
	return slices.Equal(a.Decls, b.Decls) && slices.EqualFunc(a.Rules, b.Rules, sameRule)
}

func wantProgram(t *testing.T, s string, want api.Program) {
	t.Helper()
	got, at, e := parse.Parse(s)
	if e != api.OK || at != 0 || !same(got, want) {
		t.Errorf("Parse(%.200q): %+v, %d, %d, want %+v", s, got, at, e, want)
	}
}

func wantFault(t *testing.T, s string, at int, errno api.Errno) {
	t.Helper()
	got, place, e := parse.Parse(s)
	if e != errno || place != at || !same(got, api.Program{}) {
		t.Errorf("Parse(%.200q), of %d bytes: %.200v, %d, %d, want no program, %d, %d", s, len(s), got, place, e, at, errno)
	}
}

func wantAtom(t *testing.T, s string, want api.Atom) {
	t.Helper()
	got, at, e := parse.Atom(s)
	if e != api.OK || at != 0 || !sameAtom(got, want) {
		t.Errorf("Atom(%.200q): %+v, %d, %d, want %+v", s, got, at, e, want)
	}
}

func wantNoAtom(t *testing.T, s string, at int, errno api.Errno) {
	t.Helper()
	got, place, e := parse.Atom(s)
	if e != errno || place != at || !sameAtom(got, api.Atom{}) {
		t.Errorf("Atom(%.200q), of %d bytes: %+v, %d, %d, want no atom, %d, %d", s, len(s), got, place, e, at, errno)
	}
}

// wantFaultAtMark is told the place by a dollar sign, which isn't the text's.
func wantFaultAtMark(t *testing.T, marked string, errno api.Errno) {
	t.Helper()
	at := strings.IndexByte(marked, '$')
	wantFault(t, marked[:at]+marked[at+1:], at, errno)
}

func wantNoAtomAtMark(t *testing.T, marked string, errno api.Errno) {
	t.Helper()
	at := strings.IndexByte(marked, '$')
	wantNoAtom(t, marked[:at]+marked[at+1:], at, errno)
}

// scanFaults are texts of which token.Scan tells an error; the place is told by a dollar sign.
func scanFaults() map[string]api.Errno {
	long := strings.Repeat("v", 33)
	return map[string]api.Errno{
		"$!": api.ErrForm, "p(X) $: q.": api.ErrForm, "p :- q(a, $!).": api.ErrForm, "p. $_x.": api.ErrForm, "p(a$- 1).": api.ErrForm, "p $\xff": api.ErrForm,
		"p($'a": api.ErrForm, "p($'a\n').": api.ErrForm, "p($'\\x').": api.ErrForm,
		"p($9223372036854775808).": api.ErrRange, "p(1, $-9223372036854775809).": api.ErrRange, "p/$99999999999999999999.": api.ErrRange,
		"$" + long + ".": api.ErrFull, "p($V" + long + ").": api.ErrFull, "p :- not $" + long + ".": api.ErrFull,
	}
}

func TestP61ScansErrorsAreTold(t *testing.T) {
	for s, e := range scanFaults() {
		wantFaultAtMark(t, s, e)
		// It is told ahead of all that isn't a program.
		wantFaultAtMark(t, ". "+s, e)
		wantFaultAtMark(t, "p(1,2,3,4,5,6,7) "+s, e)
		wantFaultAtMark(t, strings.Repeat("p.", 401)+s, e)
		wantFaultAtMark(t, "p/7 "+s, e)
	}
	most := "p." + strings.Repeat(" ", 65534)
	wantProgram(t, most, rules(rule(atom("p"))))
	wantFault(t, most+" ", 0, api.ErrFull)
	wantFault(t, strings.Repeat(".", 65536), 0, api.ErrForm)
	wantFault(t, " !"+most, 0, api.ErrFull)
}

func TestP61NoClauses(t *testing.T) {
	for _, s := range []string{"", " ", "\t\r\n", "% p.", "% p\n", strings.Repeat("%\n", 32768)} {
		wantProgram(t, s, api.Program{})
	}
}

func TestP61ClausesOneBehindTheOther(t *testing.T) {
	s := "edge/2. edge(a, 'B c').\npath(X, Y) :- edge(X, Z), path(Z, Y), not bad, X != 3, a = Y.% end\nbad/0.bad.path/2."
	wantProgram(t, s, api.Program{
		Decls: []api.Decl{{Pred: "edge", Arity: 2}, {Pred: "bad"}, {Pred: "path", Arity: 2}},
		Rules: []api.Rule{
			rule(atom("edge", symbol("a"), symbol("B c"))),
			rule(atom("path", variable("X"), variable("Y")), pos("edge", variable("X"), variable("Z")), pos("path", variable("Z"), variable("Y")), neg("bad"), comparison(variable("X"), "!=", number(3)), comparison(symbol("a"), "=", variable("Y"))),
			rule(atom("bad")),
		},
	})
	wantProgram(t, "p(X) :- q(X, a), not r(X), X < 3.", rules(rule(atom("p", variable("X")), pos("q", variable("X"), symbol("a")), neg("r", variable("X")), comparison(variable("X"), "<", number(3)))))
	// Clauses that are alike stay, as they come.
	wantProgram(t, "p. p/1. q. p. p/1. p/2.", api.Program{Decls: []api.Decl{{Pred: "p", Arity: 1}, {Pred: "p", Arity: 1}, {Pred: "p", Arity: 2}}, Rules: []api.Rule{rule(atom("p")), rule(atom("q")), rule(atom("p"))}})
	wantProgram(t, "p:-q.q:-p.", rules(rule(atom("p"), pos("q")), rule(atom("q"), pos("p"))))
	wantProgram(t, "p % (\n(%)\nX\n)\n.", rules(rule(atom("p", variable("X")))))
}

func TestP61Operators(t *testing.T) {
	terms := map[string]api.Term{"X": variable("X"), "a": symbol("a"), "'A'": symbol("A"), "'not'": symbol("not"), "7": number(7), "-7": number(-7)}
	for _, op := range operators() {
		for l, left := range terms {
			for r, right := range terms {
				want := rules(rule(atom("p"), comparison(left, op, right)))
				wantProgram(t, "p :- "+l+" "+op+" "+r+".", want)
				wantProgram(t, "p:-"+l+op+r+".", want)
			}
		}
		wantFaultAtMark(t, "p :- $"+op+" X.", api.ErrForm)
		wantFaultAtMark(t, "p :- X "+op+" $"+op+" X.", api.ErrForm)
		wantFaultAtMark(t, "p :- X "+op+" a $"+op+" X.", api.ErrForm)
		wantFaultAtMark(t, "p $"+op+" q.", api.ErrForm)
		wantFaultAtMark(t, "p :- q(X) $"+op+" q.", api.ErrForm)
		wantFaultAtMark(t, "p :- not q $"+op+" r.", api.ErrForm)
		wantFaultAtMark(t, "p(X $"+op+" r).", api.ErrForm)
	}
	for _, mark := range []string{":-", "/", "("} {
		wantFaultAtMark(t, "p :- X $"+mark+" Y.", api.ErrForm)
	}
	// An operator in quotation marks is a symbol.
	wantFaultAtMark(t, "p :- X $'=' Y.", api.ErrForm)
	wantProgram(t, "p('=', '.', ':-').", rules(rule(atom("p", symbol("="), symbol("."), symbol(":-")))))
}

func TestP61TermsAndLiterals(t *testing.T) {
	for s, want := range map[string]api.Term{
		"X": variable("X"), "Not": variable("Not"), "X_1": variable("X_1"), "Z" + strings.Repeat("z", 31): variable("Z" + strings.Repeat("z", 31)),
		"a": symbol("a"), "nott": symbol("nott"), "'a'": symbol("a"), "'A'": symbol("A"), "''": symbol(""), "'not'": symbol("not"), `'\n\\\''`: symbol("\n\\'"), "'" + strings.Repeat("a", 33) + "'": symbol(strings.Repeat("a", 33)), "'1'": symbol("1"), "'\xff\x00'": symbol("\xff\x00"),
		"0": number(0), "-0": number(0), "007": number(7), "-12": number(-12), "9223372036854775807": number(1<<63 - 1), "-9223372036854775808": number(-1 << 63),
	} {
		wantProgram(t, "p("+s+").", rules(rule(atom("p", want))))
		wantProgram(t, "p(q, "+s+", X) :- q("+s+"), not r(1,"+s+"), "+s+" = 1, X <= "+s+".", rules(rule(atom("p", symbol("q"), want, variable("X")), pos("q", want), neg("r", number(1), want), comparison(want, "=", number(1)), comparison(variable("X"), "<=", want))))
		wantAtom(t, "p("+s+")", atom("p", want))
	}
	wantProgram(t, "p :- q, r(a), not s, not t(a).", rules(rule(atom("p"), pos("q"), pos("r", symbol("a")), neg("s"), neg("t", symbol("a")))))
	wantProgram(t, "p :- p, p.", rules(rule(atom("p"), pos("p"), pos("p"))))
}

func TestP61NotIsNoName(t *testing.T) {
	for _, s := range []string{
		"$not.", "$not(a).", "$not/1.", "$not :- p.", "$not p.", "p. $not.", "p($not).", "p(a, $not).", "p :- X = $not.", "p :- q($not).", "p $not.",
		"p :- not $not.", "p :- not $not q.", "p :- not $= 1.", "p :- not $.", "p :- not$, q.", "p :- not $(q).", "p :- not $X.", "p :- not $X = 1.", "p :- not $1.", "p :- not $'q'.", "p :- not q $= 1.", "p :- q, not $", "p :- q $not r.",
	} {
		wantFaultAtMark(t, s, api.ErrForm)
	}
	wantProgram(t, "p :- not q.", rules(rule(atom("p"), neg("q"))))
	wantProgram(t, "p :- not nott(X), notp, not1.", rules(rule(atom("p"), neg("nott", variable("X")), pos("notp"), pos("not1"))))
	wantProgram(t, "p('not') :- 'not' = 'not', q('not'), not q('not').", rules(rule(atom("p", symbol("not")), comparison(symbol("not"), "=", symbol("not")), pos("q", symbol("not")), neg("q", symbol("not")))))
	wantNoAtomAtMark(t, "$not", api.ErrForm)
	wantNoAtomAtMark(t, "$not p", api.ErrForm)
	wantNoAtomAtMark(t, "p($not)", api.ErrForm)
}

func TestP61NamesInMarksAreNoNames(t *testing.T) {
	for _, s := range []string{"'p'", "'not'", "'A'", "''"} {
		for _, where := range []string{"$# .", "$#(a).", "$#/2.", "$# :- q.", "q. $#.", "p :- not $#.", "p :- not $#(a).", "p :- not $# = 1."} {
			wantFaultAtMark(t, strings.ReplaceAll(where, "#", s), api.ErrForm)
		}
		// Here it may be a term, as long as no mark tells that it is none.
		for _, where := range []string{"p :- #$.", "p :- #$(a).", "p :- #$, q.", "p :- # $q.", "p :- q, #$"} {
			wantFaultAtMark(t, strings.ReplaceAll(where, "#", s), api.ErrForm)
		}
		wantNoAtomAtMark(t, "$"+s, api.ErrForm)
		wantNoAtomAtMark(t, "$"+s+"(a)", api.ErrForm)
	}
}

func TestP61NamesAheadOfOperatorsAreTerms(t *testing.T) {
	wantProgram(t, "p :- a = b.", rules(rule(atom("p"), comparison(symbol("a"), "=", symbol("b")))))
	wantProgram(t, "p :- a, a < b, a, b >= a, b.", rules(rule(atom("p"), pos("a"), comparison(symbol("a"), "<", symbol("b")), pos("a"), comparison(symbol("b"), ">=", symbol("a")), pos("b"))))
	for _, s := range []string{"p :- a = b$(c).", "p :- a = $", "p :- a = $.", "p :- a = $, q.", "p :- a = b $= c.", "p :- a(b) $= c.", "a $= b.", "a(X) $= b.", "p :- a = b $q.", "p :- a = b $:- c."} {
		wantFaultAtMark(t, s, api.ErrForm)
	}
}

// wholes are clauses that hold each kind of place, as tokens.
func wholes() []string {
	return []string{"p / 3 .", "p .", "p ( X ) .", "p ( a , 'B' , 1 ) .", "p :- q .", "p ( X ) :- q ( X , 1 ) , not r , not s ( 'a' ) , X != 3 , a <= 'b' , t ."}
}

func TestP61TextsThatEndTooEarly(t *testing.T) {
	for _, whole := range wholes() {
		words := strings.Fields(whole)
		for n := 1; n < len(words); n++ {
			s := strings.Join(words[:n], " ")
			wantFault(t, s, len(s), api.ErrForm)
			wantFault(t, s+" \n % more", len(s)+9, api.ErrForm)
			wantFault(t, "q/1. q(1). "+s, len(s)+11, api.ErrForm)
		}
		if _, at, e := parse.Parse(whole); at != 0 || e != api.OK {
			t.Errorf("%q: %d, %d", whole, at, e)
		}
	}
}

func TestP61TokensThatCantBe(t *testing.T) {
	// Behind each text's start there can't be any of some tokens.
	all := []string{"p", "not", "'p'", "X", "1", "(", ")", ",", ".", "/", ":-", "="}
	for start, can := range map[string]string{
		"": "p", "p": "( . / :-", "p /": "1", "p / 1": ".", "p (": "p 'p' X 1", "p ( a": ", )", "p ( a ,": "p 'p' X 1", "p ( a )": ". :-",
		"p :-": "p not 'p' X 1", "p :- q": "( , . =", "p :- q (": "p 'p' X 1", "p :- q ( a": ", )", "p :- q ( a )": ", .", "p :- q ,": "p not 'p' X 1",
		"p :- not": "p", "p :- not q": "( , .", "p :- not q (": "p 'p' X 1", "p :- not q ( a": ", )", "p :- not q ( a )": ", .",
		"p :- X": "=", "p :- 1": "=", "p :- 'q'": "=", "p :- X =": "p 'p' X 1", "p :- X = q": ", .", "p :- q = X": ", .", "p :- X = 1 ,": "p not 'p' X 1",
	} {
		for _, x := range all {
			if slices.Contains(strings.Fields(can), x) {
				continue
			}
			if start == "" {
				wantFault(t, x, 0, api.ErrForm)
				wantFault(t, "q . "+x, 4, api.ErrForm)
				wantFault(t, "q / 1 . "+x+" :- q . p / 7 .", 8, api.ErrForm)
				continue
			}
			wantFault(t, start+" "+x, len(start)+1, api.ErrForm)
			wantFault(t, start+"\t\n"+x+" . q / 7 . )", len(start)+2, api.ErrForm)
			wantFault(t, "q / 1 . q . "+start+" "+x+" q .", len(start)+13, api.ErrForm)
		}
	}
}

func TestP61ClausesOfTheMost(t *testing.T) {
	facts, declared := strings.Repeat("p.", 400), strings.Repeat("p/6.", 400)
	both := strings.Repeat("p/6.p:-q.", 400)
	for s, n := range map[string][2]int{facts: {0, 400}, declared: {400, 0}, facts + declared: {400, 400}, declared + facts: {400, 400}, both: {400, 400}, strings.Repeat("p.", 399) + declared + "p(X) :- q(X).": {400, 400}} {
		g, at, e := parse.Parse(s)
		if len(g.Decls) != n[0] || len(g.Rules) != n[1] || at != 0 || e != api.OK {
			t.Errorf("%.20q: %d and %d clauses, %d, %d, want %v", s, len(g.Decls), len(g.Rules), at, e, n)
		}
	}
	for _, ahead := range []string{facts, facts + declared, facts + "q/1.", both} {
		// Whatever the token is, and whatever follows, the end among that, if it isn't a declaration's.
		for _, s := range []string{"p.", "p", "p(", "p :- q.", "p(1,2,3,4,5,6,7).", ".", "X", "1", "not", "'p'", ")", ",", "=", ":-", "/", "/ p /", "p X /", "p) q/7.", "/ 7"} {
			wantFault(t, ahead+"\n% more\n"+s, len(ahead)+8, api.ErrFull)
		}
	}
	for _, ahead := range []string{declared, facts + declared, declared + "q.", both} {
		for _, s := range []string{"p/1.", "p/", "p/7.", "p/x", "X/", "1/", "not/", "'p'/", "./", "//", "=/1.", ")/)"} {
			wantFault(t, ahead+"\n"+s, len(ahead)+1, api.ErrFull)
		}
	}
	// Of one kind full, the other goes on as ever.
	wantFaultAtMark(t, facts+"$X/1.", api.ErrForm)
	wantFaultAtMark(t, facts+"$//1.", api.ErrForm)
	wantFaultAtMark(t, facts+"p/$q.", api.ErrForm)
	wantFaultAtMark(t, facts+"p/$7.", api.ErrFull)
	wantFaultAtMark(t, facts+"p/1.$p.", api.ErrFull)
	wantFaultAtMark(t, declared+"$X.", api.ErrForm)
	wantFaultAtMark(t, declared+"$/", api.ErrForm)
	wantFaultAtMark(t, declared+"p$", api.ErrForm)
	wantFaultAtMark(t, declared+"p(X $/1).", api.ErrForm)
	wantFaultAtMark(t, declared+"p.$p/1.", api.ErrFull)
	// An error ahead is told, not what follows.
	wantFaultAtMark(t, strings.Repeat("p.", 399)+"p $p.p.p.", api.ErrForm)
	wantFaultAtMark(t, strings.Repeat("p.", 399)+"p$)p.p.p.", api.ErrForm)
}

func TestP61LiteralsOfTheMost(t *testing.T) {
	for s, literal := range map[string]api.Literal{"q": pos("q"), "q(X)": pos("q", variable("X")), "not q": neg("q"), "X < 1": comparison(variable("X"), "<", number(1)), "a = 1": comparison(symbol("a"), "=", number(1))} {
		eight := "p :- " + s + strings.Repeat(", "+s, 7)
		body := slices.Repeat([]api.Literal{literal}, 8)
		wantProgram(t, eight+".", rules(rule(atom("p"), body...)))
		wantProgram(t, eight+". "+eight+".", rules(rule(atom("p"), body...), rule(atom("p"), body...)))
		for _, behind := range []string{"q.", "q", "not", "not not", ".", ",", ")", "X", "1", "'q'", "/ 7", "=", ":-", "q(1,2,3,4,5,6,7)"} {
			wantFault(t, eight+",\n"+behind, len(eight)+2, api.ErrFull)
			wantFault(t, "p. "+eight+","+behind, len(eight)+4, api.ErrFull)
		}
		wantFault(t, eight+",", len(eight)+1, api.ErrFull)
		wantFault(t, eight+", % end\n", len(eight)+8, api.ErrFull)
		wantFault(t, eight, len(eight), api.ErrForm)
		wantFault(t, eight+" )", len(eight)+1, api.ErrForm)
		wantFault(t, "p :- "+strings.Repeat(s+",", 7), 5+7*(len(s)+1), api.ErrForm)
		wantFaultAtMark(t, "p :- "+strings.Repeat(s+",", 7)+"$.", api.ErrForm)
		wantFaultAtMark(t, "p :- "+strings.Repeat(s+",", 7)+"X$, q", api.ErrForm)
	}
}

func TestP61TermsOfTheMost(t *testing.T) {
	six := []api.Term{number(1), variable("X"), symbol("a"), symbol("B"), number(-5), variable("Y")}
	const terms = "1, X, a, 'B', -5, Y"
	wantProgram(t, "p("+terms+") :- q("+terms+"), not r("+terms+").", rules(rule(atom("p", six...), pos("q", six...), neg("r", six...))))
	for _, ahead := range []string{"p(", "p. p(", "p :- q(", "p :- not q(", "p :- X = 1, q("} {
		s := ahead + terms
		for _, behind := range []string{"1", "X).", "a", "'B'", "not", ")", ").", ",", ".", "(", "=", ":-", "/ 7"} {
			wantFault(t, s+", "+behind, len(s)+2, api.ErrFull)
		}
		wantFault(t, s+",", len(s)+1, api.ErrFull)
		wantFault(t, s+", %\n ", len(s)+5, api.ErrFull)
		wantFault(t, s, len(s), api.ErrForm)
		wantFault(t, s+" 7", len(s)+1, api.ErrForm)
		wantFault(t, s+" .", len(s)+1, api.ErrForm)
		wantFaultAtMark(t, ahead+"1,2,3,4,5,$)", api.ErrForm)
		wantFaultAtMark(t, ahead+"1,2,3,4,5,$", api.ErrForm)
		wantFaultAtMark(t, ahead+"1,2,3,4,5,$not,7", api.ErrForm)
	}
}

func TestP61DeclaredNumbers(t *testing.T) {
	for n := range 7 {
		wantProgram(t, "p/"+strconv.Itoa(n)+".", decls(api.Decl{Pred: "p", Arity: n}))
	}
	wantProgram(t, "p/-0. p / 006 .", decls(api.Decl{Pred: "p"}, api.Decl{Pred: "p", Arity: 6}))
	for _, n := range []string{"7", "8", "-1", "-6", "-7", "256", "4294967296", "4294967298", "9223372036854775807", "-9223372036854775808"} {
		for _, behind := range []string{".", "", " p", ")", "(", " :- q.", ".."} {
			wantFaultAtMark(t, "p/$"+n+behind, api.ErrFull)
			wantFaultAtMark(t, "q. q/1.\tp / $"+n+behind, api.ErrFull)
		}
	}
	wantFaultAtMark(t, "$X/7.", api.ErrForm)
	wantFaultAtMark(t, "$'p'/7.", api.ErrForm)
	wantFaultAtMark(t, "p/$'1'.", api.ErrForm)
	wantFaultAtMark(t, "p(X)$/7.", api.ErrForm)
	wantFaultAtMark(t, "p :- q$/7.", api.ErrForm)
}

func TestP61FieldsThatPlayNoPart(t *testing.T) {
	g, _, _ := parse.Parse("p(X, a, 'b', 5) :- q(Y), not r(b), Z = 5, c < W.")
	want := []api.Literal{
		{Kind: api.Pos, Atom: api.Atom{Pred: "q", Args: []api.Term{{IsVar: true, Name: "Y"}}}},
		{Kind: api.Neg, Atom: api.Atom{Pred: "r", Args: []api.Term{{Val: value.Sym("b")}}}},
		{Kind: api.Cmp, Op: "=", L: api.Term{IsVar: true, Name: "Z"}, R: api.Term{Val: value.Int(5)}},
		{Kind: api.Cmp, Op: "<", L: api.Term{Val: value.Sym("c")}, R: api.Term{IsVar: true, Name: "W"}},
	}
	if len(g.Rules) != 1 || !reflect.DeepEqual(g.Rules[0].Body, want) {
		t.Errorf("%+v, want %+v", g.Rules, want)
	}
	args := []api.Term{{IsVar: true, Name: "X"}, {Val: value.Sym("a")}, {Val: value.Sym("b")}, {Val: value.Int(5)}}
	if len(g.Rules) != 1 || !slices.Equal(g.Rules[0].Head.Args, args) {
		t.Errorf("%+v, want %+v", g.Rules, args)
	}
}

func TestP61AnswersAreTheCallersOwn(t *testing.T) {
	const s = "p/1. p(X, a) :- q(X, a), r(X, a). s(X, a)."
	first, _, _ := parse.Parse(s)
	want, _, _ := parse.Parse(s)
	// Whatever one list grows by, no other is changed by it.
	for i := range first.Rules {
		r := &first.Rules[i]
		_ = append(r.Head.Args, number(9), number(9), number(9), number(9))
		_ = append(r.Body, pos("z"), pos("z"))
		for k := range r.Body {
			_ = append(r.Body[k].Atom.Args, number(9), number(9), number(9))
		}
	}
	if !same(first, want) {
		t.Errorf("%+v, want %+v", first, want)
	}
	first.Rules[0].Head.Args[0], first.Rules[0].Body[0], first.Decls[0].Arity = number(9), pos("z"), 5
	if first.Rules[1].Head.Args[0] != variable("X") {
		t.Errorf("%+v", first)
	}
	wantProgram(t, s, want)
}

func TestP62Atoms(t *testing.T) {
	wantAtom(t, "p", atom("p"))
	wantAtom(t, " p % \n", atom("p"))
	wantAtom(t, "p(X, 1)", atom("p", variable("X"), number(1)))
	wantAtom(t, "%\np\n(\tX\r,'A',not1 , -3,a,'not')%", atom("p", variable("X"), symbol("A"), symbol("not1"), number(-3), symbol("a"), symbol("not")))
	long := strings.Repeat("p", 32)
	wantAtom(t, long+"("+long+")", atom(long, symbol(long)))
}

func TestP62ScansErrorsAreTold(t *testing.T) {
	for s, e := range scanFaults() {
		wantNoAtomAtMark(t, s, e)
		wantNoAtomAtMark(t, ". "+s, e)
		wantNoAtomAtMark(t, "p(1,2,3,4,5,6,7) "+s, e)
	}
	wantAtom(t, "p"+strings.Repeat(" ", 65535), atom("p"))
	wantNoAtom(t, "p"+strings.Repeat(" ", 65536), 0, api.ErrFull)
}

func TestP62TextsThatAreNoAtoms(t *testing.T) {
	for _, s := range []string{
		"$", "   $", "% p\n$", "$.", "$X", "$1", "$(p)", "$)", "$,", "$=", "$:-", "$/", "$X = 1", "$not p(a)", "$'p'(a)",
		"p$.", "p(X, 1)$.", "p $:- q.", "p$/1.", "p$/7", "p $= 1", "p $p", "p $X", "p $'p'", "p $1", "p$)", "p$,q", "p $not", "p(a)$(b)", "p(a) $p", "p(a)$)", "p(a)$,", "p(a) $= 1", "p$. q",
		"p($", "p($)", "p(a$", "p(a $b)", "p(a$.", "p(a$(b))", "p(a,$", "p(a,$)", "p(a,$,b)", "p($not)", "p(a, $not)", "p($(a))", "p(X $= 1)", "p(1,2,3,4,5,$", "p(1,2,3,4,5,6$", "p(1,2,3,4,5,6$.",
	} {
		wantNoAtomAtMark(t, s, api.ErrForm)
	}
	for _, s := range []string{"p(1,2,3,4,5,6,$", "p(1,2,3,4,5,6,$)", "p(1,2,3,4,5,6,$7)", "p(1,2,3,4,5,6,$7,8", "p(1,2,3,4,5,6, \n$, ).", "p(1,2,3,4,5,6,%\n $", "p(1,2,3,4,5,6,$not)"} {
		wantNoAtomAtMark(t, s, api.ErrFull)
	}
}

func TestP62AnswersAreTheCallersOwn(t *testing.T) {
	first, _, _ := parse.Atom("p(a, b)")
	first.Args[0] = number(9)
	wantAtom(t, "p(a, b)", atom("p", symbol("a"), symbol("b")))
}

// both is what the clauses of two programs are, one behind the other.
func both(a, b api.Program) api.Program {
	return api.Program{Decls: slices.Concat(a.Decls, b.Decls), Rules: slices.Concat(a.Rules, b.Rules)}
}

// wantBehind lays one text behind the other.
func wantBehind(t *testing.T, a, b string) {
	t.Helper()
	first, _, e1 := parse.Parse(a)
	second, _, e2 := parse.Parse(b)
	if e1 != api.OK || e2 != api.OK {
		return
	}
	want := both(first, second)
	text := a + "\n" + b
	if len(text) > api.MaxText || len(want.Decls) > api.MaxRules || len(want.Rules) > api.MaxRules {
		if g, _, e := parse.Parse(text); e != api.ErrFull || !same(g, api.Program{}) {
			t.Errorf("%.80q behind %.80q: %d", b, a, e)
		}
		return
	}
	wantProgram(t, text, want)
}

func TestP63ClausesBehindClauses(t *testing.T) {
	texts := []string{"", " % none", "p.", "p/2.", "p(a) :- q(X), not r, X <= 2.", "p/0. p. q/1.", "p(1) .% end", "'a'.", strings.Repeat("p.", 400), strings.Repeat("p/1.", 400), strings.Repeat("p. q/1.", 200), strings.Repeat("p. q/1.", 201)}
	for _, whole := range wholes() {
		texts = append(texts, whole)
	}
	for _, a := range texts {
		for _, b := range texts {
			wantBehind(t, a, b)
		}
	}
	wantProgram(t, "p.q.", both(rules(rule(atom("p"))), rules(rule(atom("q")))))
}

func TestP63TextsThatMayNotBe(t *testing.T) {
	// A text that isn't a program makes none of those behind and ahead of it, either.
	for _, s := range []string{".", "p", "p(.", "'p'.", "not.", "X.", "p/7.", "p :- .", "p(1,2,3,4,5,6,7).", "p :- X.", "1."} {
		for _, text := range []string{s, "p. " + s, s + " p.", "p/1. p. " + s + " p."} {
			if g, _, e := parse.Parse(text); e == api.OK || !same(g, api.Program{}) {
				t.Errorf("%q: %+v, %d", text, g, e)
			}
		}
	}
}

// shape is tokens as letters, one a token: n a name, N the word not, q a name in marks, v, i, : and o for operators; marks of one byte as they are.
func shape(l []api.Token) string {
	var s strings.Builder
	for _, x := range l {
		s.WriteByte(letter(x))
	}
	return s.String()
}

func letter(x api.Token) byte {
	switch {
	case x.Kind == api.TokVar:
		return 'v'
	case x.Kind == api.TokInt:
		return 'i'
	case x.Kind == api.TokName && x.Quoted:
		return 'q'
	case x.Kind == api.TokName && x.S == "not":
		return 'N'
	case x.Kind == api.TokName:
		return 'n'
	case slices.Contains(operators(), x.S):
		return 'o'
	}
	return x.S[0]
}

const (
	termShape    = `[nqvi]`
	atomShape    = `n(?:\(` + termShape + `(?:,` + termShape + `)*\))?`
	literalShape = `(?:N?` + atomShape + `|` + termShape + `o` + termShape + `)`
	clauseShape  = `(?:n/i|` + atomShape + `(?::` + literalShape + `(?:,` + literalShape + `)*)?)\.`
)

var (
	programPattern  = regexp.MustCompile(`^(?:` + clauseShape + `)*$`)
	atomPattern     = regexp.MustCompile(`^` + atomShape + `$`)
	manyLiterals    = regexp.MustCompile(`^(?:` + clauseShape + `)*` + atomShape + `:(?:` + literalShape + `,){8}$`)
	manyTerms       = regexp.MustCompile(`n\((?:` + termShape + `,){6}$`)
	declaredClauses = regexp.MustCompile(`n/i\.`)
)

// canGoOn asks whether something may stand behind a shape so that it is a whole.
func canGoOn(whole *regexp.Regexp, shape string, ends ...string) bool {
	return slices.ContainsFunc(ends, func(end string) bool { return whole.MatchString(shape + end) })
}

// isFull asks whether ErrFull is told at a place, of which what is ahead can go on.
func isFull(l []api.Token, shape string, at int) bool {
	ahead := shape[:at]
	if strings.HasSuffix(ahead, ",") {
		return manyLiterals.MatchString(ahead) || manyTerms.MatchString(ahead)
	}
	if at == len(l) {
		return false
	}
	if strings.HasSuffix(ahead, "/") && shape[at] == 'i' {
		return l[at].N < 0 || l[at].N > 6
	}
	if ahead != "" && !strings.HasSuffix(ahead, ".") {
		return false
	}
	declared := len(declaredClauses.FindAllString(ahead, -1))
	if at+1 < len(l) && shape[at+1] == '/' {
		return declared == 400
	}
	return strings.Count(ahead, ".")-declared == 400
}

// verdict is what must be told of a text whose tokens are held against patterns, from the first one on.
func verdict(s string, whole *regexp.Regexp, ends ...string) (int, api.Errno) {
	l, place, e := token.Scan(s)
	if e != api.OK {
		return place, e
	}
	shape := shape(l)
	fault := sort.Search(len(l), func(at int) bool { return !canGoOn(whole, shape[:at+1], ends...) })
	places := make([]int, 0, len(l)+1)
	for _, x := range l {
		places = append(places, x.At)
	}
	places = append(places, len(s))
	for at := range fault + 1 {
		if isFull(l, shape, at) {
			return places[at], api.ErrFull
		}
	}
	if fault < len(l) || !whole.MatchString(shape) {
		return places[fault], api.ErrForm
	}
	return 0, api.OK
}

func programVerdict(s string) (int, api.Errno) {
	return verdict(s, programPattern, "", ".", "n.", ").", "n).", "on.", "i.")
}

func atomVerdict(s string) (int, api.Errno) {
	return verdict(s, atomPattern, "", "n", ")", "n)")
}

func mark(s string) api.Token { return api.Token{Kind: api.TokMark, S: s} }

func termToken(x api.Term) api.Token {
	switch {
	case x.IsVar:
		return api.Token{Kind: api.TokVar, S: x.Name}
	case x.Val.IsSym:
		return api.Token{Kind: api.TokName, S: x.Val.Sym, Quoted: !value.Plain(x.Val.Sym)}
	}
	return api.Token{Kind: api.TokInt, N: x.Val.N}
}

func atomTokens(a api.Atom) []api.Token {
	l := []api.Token{{Kind: api.TokName, S: a.Pred}}
	for i, x := range a.Args {
		between := ","
		if i == 0 {
			between = "("
		}
		l = append(l, mark(between), termToken(x))
	}
	if len(a.Args) > 0 {
		l = append(l, mark(")"))
	}
	return l
}

func literalTokens(x api.Literal) []api.Token {
	switch x.Kind {
	case api.Cmp:
		return []api.Token{termToken(x.L), mark(x.Op), termToken(x.R)}
	case api.Neg:
		return append([]api.Token{{Kind: api.TokName, S: "not"}}, atomTokens(x.Atom)...)
	}
	return atomTokens(x.Atom)
}

func ruleTokens(r api.Rule) []api.Token {
	l := atomTokens(r.Head)
	for i, x := range r.Body {
		between := ","
		if i == 0 {
			between = ":-"
		}
		l = append(append(l, mark(between)), literalTokens(x)...)
	}
	return append(l, mark("."))
}

// clauseTokens are a program's tokens, the declarations' ones first.
func clauseTokens(g api.Program) []api.Token {
	var l []api.Token
	for _, d := range g.Decls {
		l = append(l, api.Token{Kind: api.TokName, S: d.Pred}, mark("/"), api.Token{Kind: api.TokInt, N: int64(d.Arity)}, mark("."))
	}
	for _, r := range g.Rules {
		l = append(l, ruleTokens(r)...)
	}
	return l
}

// unplaced are tokens but for At, and for marks around names that need none.
func unplaced(l []api.Token) []api.Token {
	l = slices.Clone(l)
	for i := range l {
		l[i].At = 0
		l[i].Quoted = l[i].Quoted && !value.Plain(l[i].S)
	}
	return l
}

// sorted are a program text's tokens, the declarations' ones first.
func sorted(s string) []api.Token {
	l, _, _ := token.Scan(s)
	var declared, others []api.Token
	for len(l) > 0 {
		n := slices.IndexFunc(l, func(x api.Token) bool { return letter(x) == '.' }) + 1
		if letter(l[1]) == '/' {
			declared = append(declared, l[:n]...)
		} else {
			others = append(others, l[:n]...)
		}
		l = l[n:]
	}
	return unplaced(slices.Concat(declared, others))
}

func zeroWhereNoPart(g api.Program) bool {
	for _, r := range g.Rules {
		for _, x := range r.Body {
			if x.Kind == api.Cmp && (x.Atom.Pred != "" || len(x.Atom.Args) > 0) {
				return false
			}
			if x.Kind != api.Cmp && (x.Op != "" || x.L != api.Term{} || x.R != api.Term{}) {
				return false
			}
		}
	}
	return true
}

// wantByPatterns holds what is told of a text against what patterns tell of its tokens.
func wantByPatterns(t *testing.T, s string) {
	t.Helper()
	place, errno := programVerdict(s)
	g, at, e := parse.Parse(s)
	if at != place || e != errno {
		t.Errorf("Parse(%.200q): %d, %d, want %d, %d", s, at, e, place, errno)
	}
	if e != api.OK && !same(g, api.Program{}) {
		t.Errorf("Parse(%.200q): %+v with %d", s, g, e)
	}
	if e == api.OK && (!slices.Equal(clauseTokens(g), sorted(s)) || !zeroWhereNoPart(g)) {
		t.Errorf("Parse(%.200q): %+v", s, g)
	}
	place, errno = atomVerdict(s)
	a, at, e := parse.Atom(s)
	if at != place || e != errno {
		t.Errorf("Atom(%.200q): %d, %d, want %d, %d", s, at, e, place, errno)
	}
	l, _, _ := token.Scan(s)
	if e == api.OK && !slices.Equal(atomTokens(a), unplaced(l)) || e != api.OK && !sameAtom(a, api.Atom{}) {
		t.Errorf("Atom(%.200q): %+v, %d", s, a, e)
	}
}

// TestAllShortTexts goes on behind each text that may go on, by each kind of token.
func TestAllShortTexts(t *testing.T) {
	words := []string{"p", "not", "'p'", "X", "1", "(", ")", ",", ".", "/", ":-", "="}
	texts := []string{""}
	for range 9 {
		var longer []string
		for _, s := range texts {
			for _, w := range words {
				text := s + w + " "
				wantByPatterns(t, text)
				if at, e := programVerdict(text); e == api.OK || at == len(text) {
					longer = append(longer, text)
				}
			}
		}
		texts = longer
	}
	if len(texts) < 1000 {
		t.Error(len(texts))
	}
}

// TestLongerTexts goes on by pieces, so that all limits are met, each in all kinds of clauses.
func TestLongerTexts(t *testing.T) {
	terms := []string{"1", "1,2,3,4,5", "1,2,3,4,5,6", "1,2,3,4,5,6,", "1,2,3,4,5,6,7", "1,2,3,4,5,,6,7", "not,2,3,4,5,6,7", ""}
	for _, inner := range terms {
		for n := range 10 {
			for _, last := range []string{"q", "q(" + inner, "q(" + inner + ")", "not q(" + inner + ")", "X", "X = 1", "not", "", "'q'"} {
				for _, end := range []string{".", "", ",", ")."} {
					wantByPatterns(t, "p :- "+strings.Repeat("q(X),", n)+last+end)
				}
			}
		}
	}
	for _, many := range []string{strings.Repeat("p.", 399), strings.Repeat("p.", 400), strings.Repeat("p/1.", 399), strings.Repeat("p/1.", 400), strings.Repeat("p/1.p.", 400)} {
		for _, s := range []string{"", "p.", "p/1.", "p.p/1.p.", "p/1.p.p/1.", "p/7.", "X/7.", "X.", "/", "//", "p", "p/"} {
			wantByPatterns(t, many+s)
		}
	}
}

func FuzzParse(f *testing.F) {
	for _, s := range wholes() {
		f.Add(s, "p. q/1.")
	}
	f.Add("p(1,2,3,4,5,6,7).", "p/7.")
	f.Add("p :- a,b,c,d,e,f,g,h,i.", "p :- not not.")
	f.Add("p('not', \"", "p(not).")
	f.Add("p(X), 'a' < b", "% none")
	f.Fuzz(func(t *testing.T, a, b string) {
		// The patterns take their time with many tokens.
		if len(a)+len(b) > 500 {
			return
		}
		wantByPatterns(t, a)
		wantByPatterns(t, a+b)
		wantBehind(t, a, b)
	})
}
